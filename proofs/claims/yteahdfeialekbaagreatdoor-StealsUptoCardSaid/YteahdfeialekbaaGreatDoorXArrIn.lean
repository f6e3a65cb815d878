/-
  A thing arrives at the end of a link: it is kept, and what has come by that is told.
-/
import Derived.Test.YteahdfeialekbaaGreatDoorXIn
import Derived.Test.YteahdfeialekbaaGreatDoorRefCameAll
namespace Go.Proofs.YteahdfeialekbaaGreatDoor
open Go Go.RowKit Go.Maps Go.WideMaps
theorem keepS_in {l : LinkS} {n : Int} (h : l.came < n /\ n <= l.came + 4) : keepS l n = { l with kept := if l.kept.any (· == n) = true then l.kept else l.kept ++ [n] } := by
 unfold keepS
 by_cases hk : l.kept.any (· == n) = true
 ·rw [if_neg (fun e => by rw [hk] at e; exact absurd e.2.2 (by simp)), if_pos hk]
 ·rw [if_pos ⟨h.1, h.2, Bool.eq_false_iff.2 hk⟩, if_neg hk]
theorem keepS_out {l : LinkS} {n : Int} (h : ¬ (l.came < n /\ n <= l.came + 4)) : keepS l n = l := by
 unfold keepS
 rw [if_neg (fun e => h ⟨e.1, e.2.1⟩)]
set_option maxHeartbeats 4000000 in
set_option maxRecDepth 100000 in
theorem arrive_in (X : Nat -> Prop) (q : Nat) (l : LinkS) (m : MsgS) (w : World) (h : InAt X w q l) (hX : ∀ b, X b -> b < w.heap.size) (hc : 0 <= l.came /\ l.came <= 1000000) (hall : l.all.length <= 1000000) (hkl : l.kept.length <= 1000000) (hno : ∀ (n : Nat) (m : MsgS), l.all[n]? = some m -> m.no = (n : Int) + 1) (hm : 1 <= m.no /\ l.all[(m.no - 1).toNat]? = some m) :
  Calls Tryz.prog 165 #[.pointer (some ⟨q, 0, none⟩), .agg (msgCells m)] w fun e w' => ∃ v, e = .returned v /\ ∃ n, Comes (keepS l m.no) n /\ n <= l.all.length /\ w'.ownsRow w.heap.size 140 15 v n (((l.all.drop l.came.toNat).take n).flatMap msgEnc) /\ InAt X w' q ((keepS l m.no).on n) /\ Kept X w w' := by
 have hmn : m.no <= 1000000 := by have := (List.getElem?_eq_some_iff.1 hm.2).1; omega
 obtain ⟨M, hq, hXq, ⟨D, hown, hsz, hhas, hat⟩, hXM⟩ := h
 obtain ⟨Z, hZ⟩ : ∃ Z, w.alloc (Obj.cells (msgCells m) 140) = Z := ⟨_, rfl⟩
 have gZ : Below w.heap.size w Z := by rw [<- hZ]; exact (Below.refl _ _).alloc (Nat.le_refl _) _
 have sZ : Z.heap.size = w.heap.size + 1 := by rw [<- hZ]; simp
 have bZ : BoxAt Z w.heap.size 140 (msgCells m) := by rw [<- hZ]; exact BoxAt.new w _ _
 have kZ : Kept (fun _ => False) w Z := Kept.of_below gZ (fun b h1 h2 => by omega)
 have qZ := hq.kept kZ (fun h => h)
 have hMl := World.ownsMap.lt hown
 have hql := hq.lt
 have HOWN : Hid (∀ U, Kept (fun _ => False) w U -> U.ownsMap Tryz.prog 3 heldElem M (Maps.size D) D) := fun U hU => by
  obtain ⟨es, cl, hb, hrest⟩ := hown
  exact ⟨es, cl, hU.heap hb (fun h => h), hrest⟩
 have hMq : M ≠ q := fun e => by
  obtain ⟨es, cl, hb, -⟩ := hown
  have h1 : w.heap[q]? = _ := hq
  rw [e, h1] at hb
  cases hb
 have hwf : (Lit.int .i64 m.no).wf = true := by simp [Lit.wf, IntKind.min, IntKind.max, IntKind.bits, IntKind.signed]; omega
 have hkey : keyOf Tryz.prog 3 (.int .i64 m.no) = some (numL m.no) := keyOf_int_mk Tryz.underlying3 hwf
 have hw1 : IntKind.i64.wrap (m.no - (l.came + 1)) = m.no - (l.came + 1) := IntWalk.i64_in _ (by omega)
 have HNX : Hid (∀ U, Kept (fun _ => False) w U -> Calls Tryz.prog 177 #[.pointer (some ⟨q, 0, none⟩)] U fun e w' => ∃ v, e = .returned v /\ (v = .int .i64 (l.came + 1) /\ w' = U)) := fun U hU => by
  refine (inNext_calls q M l.came U (hq.kept hU (fun h => h)) (by omega)).mono ?_
  rintro e w' ⟨rfl, rfl⟩
  exact ⟨_, rfl, rfl, rfl⟩
 have hka : (keepS l m.no).all = l.all /\ (keepS l m.no).came = l.came := by
  unfold keepS
  split <;> exact ⟨rfl, rfl⟩
 have HRL : Hid (∀ U, InAt X U q (keepS l m.no) -> Kept X w U -> Calls Tryz.prog 178 #[.pointer (some ⟨q, 0, none⟩)] U fun e w' => ∃ v, e = .returned v /\ ∃ n, Comes (keepS l m.no) n /\ n <= l.all.length /\ w'.ownsRow w.heap.size 140 15 v n (((l.all.drop l.came.toNat).take n).flatMap msgEnc) /\ InAt X w' q ((keepS l m.no).on n) /\ Kept X w w') := fun U hI hK => by
  refine (release_calls X q (keepS l m.no) U hI (fun b hb => Nat.lt_of_lt_of_le (hX b hb) hK.size) (by rw [hka.2]; exact hc) (by rw [hka.1]; exact hall) (by rw [hka.1]; exact hno)).mono ?_
  rintro e w' ⟨v, rfl, n, h1, h2, h3, h4, h5⟩
  rw [hka.1] at h2 h3
  rw [hka.2] at h3
  exact ⟨v, rfl, n, h1, h2, ownsRow_base h3 hK.size, h4, hK.trans h5⟩
 have HQ := hid_of hq
 have HO := hid_of hown
 have HHS := hid_of hhas
 have HAT := hid_of hat
 have HKZ := hid_of kZ
 have HBZ := hid_of bZ
 have HQZ := hid_of qZ
 have HM2 : Hid (l.all[(m.no - 1).toNat]? = some m) := hm.2
 have m2 := bZ.cell (o := 2) rfl
 clear hq hown hhas hat gZ kZ bZ qZ hno
 go_enter Tryz.func165, Tryz.ntmps165
 go_upto_region 1 with fail
 try rw [hZ]
 clear hZ
 go_cut [5] (fun dv wx => dv = .int .i64 (m.no - (l.came + 1)) /\ Kept (fun _ => False) Z wx)
 case first =>
  go_region_law (refine step_call1 (by rfl) 177 _ _ (by rfl) (.pointer (some ⟨q, 0, none⟩)) (by rfl) (enters_of Tryz.func177 (by kernel_rfl) rfl) (HNX.out _ (by first | exact HKZ.out | exact HKZ.out.drew)) ?_; rintro v8 w8 ⟨rfl, rfl⟩)
  all_goals
   go_wp2_with fail
   go_meet
   case rel => exact ⟨rfl, by first | exact Kept.refl _ _ | exact (Kept.refl _ _).drew⟩
 case rest =>
  obtain ⟨rfl, hkx⟩ := hcut
  rename World => wx
  have hKx : Kept (fun _ => False) w wx := HKZ.out.trans hkx
  have bx := HBZ.out.kept hkx (fun h => h)
  have qx := HQZ.out.kept hkx (fun h => h)
  have HKX := hid_of hKx
  have HBX := hid_of bx
  have HQX := hid_of qx
  by_cases hwin : l.came < m.no /\ m.no <= l.came + 4
  ·have d0 : decide (0 <= m.no - (l.came + 1)) = true := by simp; omega
   have d1 : decide (m.no - (l.came + 1) < 4) = true := by simp; omega
   have d2 : (0 : Int) <= m.no - (l.came + 1) := by omega
   have d3 : m.no - (l.came + 1) < 4 := by omega
   have x1 := qx.cell (o := 1) rfl
   obtain ⟨n0, n1, n2, n3, n4, n5, n6, n7, n8, n9, n10, n11, n12, n13, n14⟩ := cells15 bx
   have HW : Hid (l.came < m.no /\ m.no <= l.came + 4) := hwin
   clear bx qx hkx hKx m2 hwin
   go_upto_region 3 with fail
   go_still_tail 7, (by kernel_rfl)
   go_upto_region 4 with (at_mapUpdate; refine wpList_mapUpdate_own _ rfl _ _ _ 171 rfl 3 140 intKeyed Tryz.underlying171 heldElem M (Maps.size D) D rfl (by first | exact HOWN.out _ HKX.out | exact HOWN.out _ HKX.out.drew) (by unfold maxLen; omega) _ _ _ rfl rfl hkey (.held (.agg (msgCells m))) [] rfl ?_; intro w1 hown1 hgrow1)
   have k1 : Kept (· = M) wx w1 := by
    have h9 : Kept (· = M) wx.drew w1 := Kept.grown hgrow1 (fun r e => by cases e; rfl)
    exact (Kept.refl _ _).drew.trans h9
   have hI1 : InAt X w1 q (keepS l m.no) := by
    refine ⟨M, ?_, hXq, ?_, hXM⟩
    ·rw [hka.2]
     exact HQX.out.kept k1 (fun e => hMq e.symm)
    ·rw [hka.2, hka.1, keepS_in HW.out]
     exact InMap.put HO.out hsz HHS.out HAT.out hown1 HW.out.1 HM2.out
   have HR1 := hid_of (HRL.out w1 hI1 ((HKX.out.mono (fun _ _ h => h.elim)).trans (k1.mono (fun b _ e => by subst e; exact hXM))))
   clear hI1 k1
   go_wp2_with (go_at_call 178; refine HR1.out.mono ?_; rintro e w2 ⟨v2, rfl, hres⟩; have HRES := hid_of hres; clear hres)
   go_ret
   exact ⟨_, rfl, HRES.out⟩
  ·have hI1 : InAt X wx q (keepS l m.no) := by
    rw [keepS_out hwin]
    exact ⟨M, HQX.out, hXq, ⟨D, HOWN.out wx HKX.out, hsz, HHS.out, HAT.out⟩, hXM⟩
   have HR1 := hid_of (HRL.out wx hI1 (HKX.out.mono (fun _ _ h => h.elim)))
   clear hI1 bx qx hkx hKx m2
   by_cases d2 : (0 : Int) <= m.no - (l.came + 1)
   ·have d1 : decide (m.no - (l.came + 1) < 4) = false := by simp; omega
    have d0 : decide (0 <= m.no - (l.came + 1)) = true := by simp; omega
    have d3 : ¬ m.no - (l.came + 1) < 4 := by omega
    clear hwin
    go_wp2_with (go_at_call 178; refine HR1.out.mono ?_; rintro e w2 ⟨v2, rfl, hres⟩; have HRES := hid_of hres; clear hres)
    go_ret
    exact ⟨_, rfl, HRES.out⟩
   ·have d0 : decide (0 <= m.no - (l.came + 1)) = false := by simp; omega
    clear hwin
    go_wp2_with (go_at_call 178; refine HR1.out.mono ?_; rintro e w2 ⟨v2, rfl, hres⟩; have HRES := hid_of hres; clear hres)
    go_ret
    exact ⟨_, rfl, HRES.out⟩
end Go.Proofs.YteahdfeialekbaaGreatDoor
