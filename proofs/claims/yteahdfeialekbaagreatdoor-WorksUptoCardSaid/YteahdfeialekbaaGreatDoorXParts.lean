/-
  The ends of the links that lead to a worker, as the project makes them: new memory alone.
-/
import Derived.Test.YteahdfeialekbaaGreatDoorXOut
import Derived.Deep.RegionHeld3
import Derived.Test.YteahdfeialekbaaGreatDoorKids
namespace Go.Proofs.YteahdfeialekbaaGreatDoor
open Go Go.RowKit
theorem infoPIn : (Tryz.prog.info? 199).map (fun i => (i.zero, i.size, i.bytes)) = some (some (.pointer none), 1, 8) := by kernel_rfl
set_option maxHeartbeats 1000000 in
set_option maxRecDepth 100000 in
theorem newIns_calls (i n : Nat) (w : World) (hn : n <= 5) (hi : i < n) :
  Calls Tryz.prog 117 #[.int .i64 i, .int .i64 n, .func (.func 118) #[] #[]] w fun e w' => ∃ (g : Nat) (part : Nat -> Nat), e = .returned (.slice (some ⟨g, 0, none⟩) n n) /\ (∀ b, part b ≠ 0 -> w.heap.size <= b /\ (part b = 8 \/ (200 + 10 * i <= part b /\ part b < 200 + 10 * i + n))) /\ XInsAt part i w' (.slice (some ⟨g, 0, none⟩) n n) (List.replicate n (List.replicate n link0)) /\ Below w.heap.size w w' := by
 obtain ⟨i0, hi0, hz0, hz1, hz2⟩ := info_parts infoPIn
 go_enter Tryz.func117, Tryz.ntmps117
 go_wp2_with (at_make; refine wpList_make_full _ rfl _ _ 134 rfl w.heap.size 199 i0 _ 1 Tryz.underlying134 hi0 hz0 hz1 .i64 .i64 _ _ n rfl rfl (by simp) (by simp) (by rw [hz2]; omega) (by unfold maxLen; omega) (Nat.le_refl _) ?_; intro w1 hown1 hgrow1)
 obtain ⟨cur, hcur, hcn, hc0⟩ : ∃ cur, BoxAt w1 w.heap.size 199 cur /\ cur.size = n /\ ∀ j, j < n -> cur[j]? = some (Value.pointer none) := by
  rcases hown1.2 with ⟨h0, _⟩ | ⟨g', cap', cur, h0, hb, hcur, hnc, hcm, hcs, htk⟩
  ·cases h0
  ·cases h0
   have hsz : cur.size = n := by rw [hcs]; omega
   refine ⟨cur, hcur, hsz, fun j hj => ?_⟩
   have h1 := congrArg (fun l => l[j]?) htk
   simp only [List.getElem?_take, show j < n * 1 by omega, if_true, Array.getElem?_toList] at h1
   rw [h1]
   simp [madeCells, Value.cells, hj, Nat.mod_one]
 have hb1 : Below w.heap.size w w1 := (Kept.grown hgrow1 (X := fun _ => False) (fun r e => by cases e)).below (Nat.le_refl _) (fun _ h => h.elim)
 have HCUR := hid_of hcur
 have HB1 := hid_of hb1
 have hCN : Hid (cur.size = n) := hcn
 have HC0 := hid_of hc0
 have hls := hcur.lt
 clear hown1 hgrow1 hcur hb1 hcn hc0
 go_loopw [13] (fun iv wr => ∃ (k : Nat) (cur : Array Value) (part : Nat -> Nat) (qs : List (Option Nat)), k <= n /\ iv = .int .i64 k /\ BoxAt wr w.heap.size 199 cur /\ cur.size = n /\ (∀ j, k <= j -> j < n -> cur[j]? = some (Value.pointer none)) /\ qs.length = k /\ (∀ (j : Nat) (q : Option Nat), qs[j]? = some q -> cur[j]? = some (Value.pointer (q.map (fun b => (⟨b, 0, none⟩ : Addr))))) /\
  (∀ b, part b ≠ 0 -> w.heap.size < b /\ 200 + 10 * i <= part b /\ part b < 200 + 10 * i + n) /\ (∀ j q, qs[j]? = some q -> InEndAt part i j wr link0 q) /\ Below w.heap.size w wr) (fun iv _ => n - (intOf iv).toNat)
 case atStart => exact ⟨0, cur, fun _ => 0, [], Nat.zero_le _, rfl, HCUR.out, hCN.out, (fun j _ h => HC0.out j h), rfl, (fun j q h => by simp at h), (fun b h => absurd rfl h), (fun j q h => by simp at h), HB1.out⟩
 case round =>
  obtain ⟨k, cu, part, qs, hk, rfl, hbox, hcz, hc0, hql, hqc, hpt, hqe, hbw⟩ := hrel
  rename World => wr
  have HBOX := hid_of hbox
  have HBW := hid_of hbw
  have HCZ : Hid (cu.size = n) := hcz
  have HQ0 := hid_of hc0
  have HQL : Hid (qs.length = k) := hql
  have HQC := hid_of hqc
  have HPT := hid_of hpt
  have HQE := hid_of hqe
  have hsz := hbw.size
  have hlt0 := hbox.lt
  clear hbox hbw hcz hc0 hql hqc hpt hqe
  by_cases hlt : k < n
  ·have j1 : (0 : Int) <= (k : Int) := by omega
   have j2 : (k : Int) < (n : Int) := by omega
   have HV0 := hid_of (HQ0.out k (Nat.le_refl _) hlt)
   by_cases hki : k = i
   ·have hne : ((k : Int) != (i : Int)) = false := by simp [hki]
    have HKI : Hid (k = i) := hki
    clear hki
    go_wp2_with fail
    go_roundw
    case rel =>
     refine ⟨k + 1, cu, part, qs ++ [none], by omega, by go_num, HBOX.out, HCZ.out, (fun j h1 h2 => HQ0.out j (by omega) h2), by rw [List.length_append, HQL.out]; rfl, fun j q hq => ?_, HPT.out, fun j q hq => ?_, HBW.out⟩
     ·rcases get_snoc hq with ⟨_, hq'⟩ | ⟨hj, rfl⟩
      ·exact HQC.out j q hq'
      ·rw [HQL.out] at hj; subst hj; exact HV0.out
     ·rcases get_snoc hq with ⟨_, hq'⟩ | ⟨hj, rfl⟩
      ·exact HQE.out j q hq'
      ·rw [HQL.out] at hj; subst hj; exact HKI.out
    case measure => simp [intOf]; omega
   ·have hne : ((k : Int) != (i : Int)) = true := by simp; omega
    have HKI : Hid (k ≠ i) := hki
    clear hki
    go_wp2_with (go_at_call 118; refine (newIn_calls wr).mono ?_; rintro e w2 ⟨T, rfl, hT2, hb2⟩; have hbx2 := HBOX.out.below hb2 hlt0; have y0 := hbx2.cell HV0.out; have z0 := hbx2.frozen k)
    go_roundw
    case rel =>
     have k23 : Kept (· = w.heap.size) w2 (w2.setCell ⟨w.heap.size, k, none⟩ (.pointer (some ⟨T, 0, none⟩))) := (Kept.refl _ _).setCell (.inl (by rfl)) _
     have kr3 : Kept (· = w.heap.size) wr (w2.setCell ⟨w.heap.size, k, none⟩ (.pointer (some ⟨T, 0, none⟩))) := (Kept.of_below hb2 (X := (· = w.heap.size)) (fun b h1 h2 => by omega)).andThen k23 (fun b _ h => h)
     refine ⟨k + 1, _, fun b => if b < wr.heap.size then part b else 200 + 10 * i + k, qs ++ [some T], by omega, by go_num, hbx2.setAt k _, by simp [HCZ.out], fun j h1 h2 => ?_, by rw [List.length_append, HQL.out]; rfl, fun j q hq => ?_, fun b hb => ?_, fun j q hq => ?_, ?_⟩
     ·rw [Array.getElem?_setIfInBounds_ne (by omega)]; exact HQ0.out j (by omega) h2
     ·rcases get_snoc hq with ⟨hj, hq'⟩ | ⟨hj, rfl⟩
      ·rw [HQL.out] at hj
       rw [Array.getElem?_setIfInBounds_ne (by omega)]; exact HQC.out j q hq'
      ·rw [HQL.out] at hj; subst hj
       rw [Array.getElem?_setIfInBounds_self_of_lt (by rw [HCZ.out]; exact hlt)]; rfl
     ·dsimp only at hb ⊢
      by_cases h : b < wr.heap.size
      ·rw [if_pos h] at hb ⊢; exact HPT.out b hb
      ·rw [if_neg h]; exact ⟨by omega, by omega, by omega⟩
     ·rcases get_snoc hq with ⟨hj, hq'⟩ | ⟨hj, rfl⟩
      ·exact (HQE.out j q hq').kept kr3 (fun g hg h => ⟨fun h' => by have := HPT.out g (by omega); omega, (if_pos hg).trans h⟩)
      ·rw [HQL.out] at hj; subst hj
       exact ⟨HKI.out, hT2.kept k23 (fun g hg h => ⟨fun h' => by omega, if_neg (by omega)⟩)⟩
     ·exact (HBW.out.trans (hb2.mono hsz)).setCell (Nat.le_refl _) _
    case measure => simp [intOf]; omega
  ·obtain rfl : n = k := by omega
   go_wp2_with fail
   go_ret
   refine ⟨_, fun b => if b = w.heap.size then 8 else part b, rfl, fun b hb => ?_, ⟨qs, ⟨?_, fun g e => ?_⟩, by rw [HQL.out]; simp, fun j q row l hq hr hl => ?_⟩, HBW.out⟩
   ·dsimp only at hb ⊢
    by_cases h : b = w.heap.size
    ·rw [if_pos h]; exact ⟨by omega, .inl rfl⟩
    ·rw [if_neg h] at hb ⊢
     have := HPT.out b hb
     exact ⟨by omega, .inr this.2⟩
   ·have := row_of_cells (base := 0) (n := n) (sz := 1) (enc := optEnc) (xs := qs) (by omega) (fun _ => rfl) HBOX.out (Nat.zero_le _) (by rw [HCZ.out]; omega) HQL.out (by unfold maxLen; omega) (fun j x i' u hx hu => by
     match i', hu with
     | 0, hu => cases hu; simpa using HQC.out j x hx
     | (m + 1), hu => simp [optEnc] at hu)
    rw [HQL.out]
    exact this
   ·simp [Value.ownBlock] at e
    exact if_pos e.symm
   ·rw [replicate_get hr] at hl
    rw [replicate_get hl]
    exact (HQE.out j q hq).kept (Kept.refl (fun _ => False) _) (fun g hg h => ⟨fun h => h, (if_neg (by have := HPT.out g (by omega); omega)).trans h⟩)
theorem kinds_set (l : List (KindS × Value)) : ∀ (k : Nat) (c : KindS) (o v : Value), l[k]? = some (c, o) -> (l.flatMap kindEnc).set (k * 3 + 2) v = (l.set k (c, v)).flatMap kindEnc := by
 induction l with
 | nil => intro k c o v h; simp at h
 | cons x r ih =>
  intro k c o v h
  cases k with
  | zero => simp at h; subst h; rfl
  | succ k =>
   have h' := ih k c o v (by simpa using h)
   rw [List.flatMap_cons, List.set_cons_succ, List.flatMap_cons, <- h']
   show List.set ([.int .i64 x.1.A, .int .i64 x.1.B, x.2] ++ r.flatMap kindEnc) _ _ = _
   rw [List.set_append_right _ _ (by simp; omega)]
   congr 2
   simp; omega
theorem row_raise {W : World} {base e size n g cap : Nat} {xs : List Value} (h : W.ownsRow 0 e size (.slice (some ⟨g, 0, none⟩) n cap) n xs) (hb : base <= g) : W.ownsRow base e size (.slice (some ⟨g, 0, none⟩) n cap) n xs := by
 obtain ⟨h1, h2⟩ := h
 rcases h2 with ⟨h0, _⟩ | ⟨g', cap', cur, h0, _, h3⟩
 ·cases h0
 ·cases h0
  exact ⟨h1, .inr ⟨g, cap, cur, rfl, hb, h3⟩⟩
theorem step_call1 {P : Program} {ops : Array Oper} {o : Oper} {a : Act} {w : World} {K : Act -> World -> Prop} {Q : Exit -> Act -> World -> Prop} {E : Prop} {R : Value -> World -> Prop}
  (hg : o.guard = none) (f : Nat) (x : Operand) (tys : Array TypeId) (hop : o.op = Op.call { callee := Callee.value (Operand.func f), args := #[x], argTypes := tys }) (v1 : Value) (hx : a.eval x = v1)
  (he : ∀ args w, (callFunc f args).run P w = .ok (.enter f args) w) (hc : Calls P f #[v1] w fun e w' => ∃ v, e = .returned v /\ R v w') (hK : ∀ v w', R v w' -> K (a.put o.dst v) w') :
  if Region.wanted o (yielded ops a.tmps) = true then Oper.wp P o a w K Q else E := by
 have hw : Region.wanted o (yielded ops a.tmps) = true := by simp [Region.wanted, hg]
 rw [if_pos hw]
 have hf : a.eval (Operand.func f) = .func (.func f) #[] #[] := rfl
 unfold Oper.wp execOp
 simp only [hop, resolve, invoke, hf, Sem.run_bind, List.map_toArray, List.map_cons, List.map_nil, hx]
 simp [Deferred.ofValue, he, go_sem]
 refine hc.mono ?_
 rintro e w' ⟨v, rfl, hR⟩
 exact hK v w' hR
theorem step_call3 {P : Program} {ops : Array Oper} {o : Oper} {a : Act} {w : World} {K : Act -> World -> Prop} {Q : Exit -> Act -> World -> Prop} {E : Prop} {R : Value -> World -> Prop}
  (hg : o.guard = none) (f : Nat) (x y z : Operand) (tys : Array TypeId) (hop : o.op = Op.call { callee := Callee.value (Operand.func f), args := #[x, y, z], argTypes := tys }) (v1 v2 v3 : Value) (hx : a.eval x = v1) (hy : a.eval y = v2) (hz : a.eval z = v3)
  (he : ∀ args w, (callFunc f args).run P w = .ok (.enter f args) w) (hc : Calls P f #[v1, v2, v3] w fun e w' => ∃ v, e = .returned v /\ R v w') (hK : ∀ v w', R v w' -> K (a.put o.dst v) w') :
  if Region.wanted o (yielded ops a.tmps) = true then Oper.wp P o a w K Q else E := by
 have hw : Region.wanted o (yielded ops a.tmps) = true := by simp [Region.wanted, hg]
 rw [if_pos hw]
 have hf : a.eval (Operand.func f) = .func (.func f) #[] #[] := rfl
 unfold Oper.wp execOp
 simp only [hop, resolve, invoke, hf, Sem.run_bind, List.map_toArray, List.map_cons, List.map_nil, hx, hy, hz]
 simp [Deferred.ofValue, he, go_sem]
 refine hc.mono ?_
 rintro e w' ⟨v, rfl, hR⟩
 exact hK v w' hR
theorem row_frozen {W : World} {base e size n g cap : Nat} {xs : List Value} (h : W.ownsRow base e size (.slice (some ⟨g, 0, none⟩) n cap) n xs) (o : Nat) : W.frozen? ⟨g, o, none⟩ = false := by
 rcases h.2 with ⟨h0, _⟩ | ⟨g', cap', cur, h0, hb, hcur, _⟩
 ·cases h0
 ·cases h0
  exact BoxAt.frozen hcur o
set_option maxHeartbeats 4000000 in
set_option maxRecDepth 100000 in
theorem copy_calls (a : Option Addr) (cap : Nat) (kind arg : Int) (ks : List KindS) (w : World) (hk : KindsAt (fun _ => True) w (.slice a ks.length cap) ks) (hprog : progB ks kind arg = true) :
  Calls Tryz.prog 69 #[.agg #[.slice a ks.length cap, .int .i64 kind, .int .i64 arg]] w fun e w' => ∃ a' c', e = .returned (.agg #[.slice a' ks.length c', .int .i64 kind, .int .i64 arg]) /\ KindsAt (fun b => w.heap.size <= b) w' (.slice a' ks.length c') ks /\ Below w.heap.size w w' := by
 have hlen5 : ks.length <= 5 := by simp [progB, rangeB] at hprog; omega
 have HKL : Hid (∀ k ∈ ks, k.kids.length <= 3) := fun k hk => by
  simp [progB] at hprog
  have := hprog.1.1.2 k hk
  simp [kindB] at this
  exact this.1.2
 obtain ⟨V, hV⟩ : ∃ V, (w.alloc (Obj.cells #[.slice a ks.length cap, .int .i64 kind, .int .i64 arg] 42)).alloc (Obj.cells #[.slice none 0 0, .int .i64 0, .int .i64 0] 42) = V := ⟨_, rfl⟩
 have bP : BoxAt V w.heap.size 42 #[.slice a ks.length cap, .int .i64 kind, .int .i64 arg] := by rw [<- hV]; exact (BoxAt.new w _ _).alloc _
 have bZ : BoxAt V (w.heap.size + 1) 42 #[.slice none 0 0, .int .i64 0, .int .i64 0] := by
  rw [<- hV]; have := BoxAt.new (w.alloc (Obj.cells #[.slice a ks.length cap, .int .i64 kind, .int .i64 arg] 42)) 42 #[.slice none 0 0, .int .i64 0, .int .i64 0]
  rw [World.size_alloc] at this; exact this
 have hbV : Below w.heap.size w V := by rw [<- hV]; exact ((Below.refl _ _).alloc (Nat.le_refl _) _).alloc (by simp) _
 have sV : V.heap.size = w.heap.size + 2 := by rw [<- hV]; simp
 have kV : KindsAt (fun b => b < w.heap.size) V (.slice a ks.length cap) ks := (hk.below.kept (Kept.of_below hbV (X := fun b => w.heap.size <= b) (fun _ _ h => h)) (fun b h1 h2 => by omega)).mono' (fun _ h => h.2)
 obtain ⟨l0, hl0, hla, hlk⟩ := kinds_list kV
 have hll : l0.length = ks.length := by rw [<- hl0]; simp
 have HCK := hid_of (cloneK_calls (.slice a ks.length cap) l0 V hla (by omega) (fun p hp => by obtain ⟨a', c', e, _⟩ := hlk p hp; rw [e]; rfl))
 rw [hll] at HCK
 have p0 := bP.cell (o := 0) rfl
 have HBP := hid_of bP
 have HBZ := hid_of bZ
 have HBV := hid_of hbV
 have HL0 : Hid (l0.map Prod.fst = ks) := hl0
 have HLK := hid_of hlk
 have HLL0 : Hid (l0.length = ks.length) := hll
 clear bP bZ hbV kV hk hl0 hla hlk hprog hll
 go_enter Tryz.func69, Tryz.ntmps69
 go_upto_region 2 with (go_at_call 112; refine HCK.out.mono ?_; rintro e w1 ⟨v1, rfl, hrow1, hb1⟩; obtain ⟨a1, c1, rfl⟩ := row_form hrow1; have hP1 := HBP.out.below hb1 HBP.out.lt; have x0 := hP1.cell (o := 0) rfl; have f0 := hP1.frozen 0)
 obtain ⟨w2, hw2⟩ : ∃ w2, w1.setCell ⟨w.heap.size, 0, none⟩ (.slice a1 ks.length c1) = w2 := ⟨_, rfl⟩
 have k12 : Kept (· = w.heap.size) w1 w2 := by rw [<- hw2]; exact (Kept.refl _ _).setCell (.inl (by rfl)) _
 have HP2 : Hid (BoxAt w2 w.heap.size 42 #[.slice a1 ks.length c1, .int .i64 kind, .int .i64 arg]) := by rw [<- hw2]; exact hP1.setAt 0 _
 have hs1 := hb1.size
 have hs2 := k12.size
 have HZ2 : Hid (BoxAt w2 (w.heap.size + 1) 42 #[.slice none 0 0, .int .i64 0, .int .i64 0]) := (HBZ.out.below hb1 HBZ.out.lt).kept k12 (by omega)
 have HROW2 : Hid (w2.ownsRow V.heap.size 111 3 (.slice a1 ks.length c1) ks.length (l0.flatMap kindEnc)) := row_kept hrow1 k12 (fun g e h => by subst h; exact row_ne hrow1 hP1 (by decide) e) (Nat.le_refl _)
 have HB2 : Hid (Below w.heap.size w w2) := (HBV.out.trans (hb1.mono (by omega))).trans (k12.below (by omega) (fun b h => by omega))
 have HLK2 : Hid (∀ p ∈ l0, KidsAt (fun b => b < w.heap.size) w2 p.2 p.1.kids) := fun p hp => ((HLK.out p hp).kept (Kept.of_below hb1 (X := fun b => V.heap.size <= b) (fun _ _ h => h)) (fun b h1 h2 => by omega)).kept k12 (fun b h1 h2 => by omega)
 rw [hw2]
 clear hw2 hrow1 hb1 hP1 x0 f0 k12 p0 hV
 have x0 := HP2.out.cell (o := 0) rfl
 go_wp2_with fail
 go_loopw [11] (fun iv wr => ∃ (k : Nat) (l : List (KindS × Value)), k <= ks.length /\ iv = .int .i64 k /\ l.map Prod.fst = ks /\ wr.ownsRow V.heap.size 111 3 (.slice a1 ks.length c1) ks.length (l.flatMap kindEnc) /\ (∀ j p, l[j]? = some p -> (j < k -> wr.ownsRow V.heap.size 108 2 p.2 p.1.kids.length (kidCells p.1.kids)) /\ (k <= j -> KidsAt (fun b => b < w.heap.size) wr p.2 p.1.kids)) /\ Kept (fun b => V.heap.size <= b) w2 wr) (fun iv _ => ks.length - (intOf iv).toNat)
 case atStart => exact ⟨0, l0, Nat.zero_le _, rfl, HL0.out, HROW2.out, fun j p hp => ⟨fun h => absurd h (by omega), fun _ => HLK2.out p (List.mem_of_getElem? hp)⟩, Kept.refl _ _⟩
 case round =>
  obtain ⟨k, l, hk, rfl, hlm, hrow, hkd, hkw⟩ := hrel
  rename World => wr
  have HROW := hid_of hrow
  have HKD := hid_of hkd
  have HKW := hid_of hkw
  have HLM : Hid (l.map Prod.fst = ks) := hlm
  have hsr := hkw.size
  have HPr : Hid (BoxAt wr w.heap.size 42 #[.slice a1 ks.length c1, .int .i64 kind, .int .i64 arg]) := HP2.out.kept hkw (by omega)
  have HZr : Hid (BoxAt wr (w.heap.size + 1) 42 #[.slice none 0 0, .int .i64 0, .int .i64 0]) := HZ2.out.kept hkw (by omega)
  have HLL : Hid (l.length = ks.length) := by show _ = _; rw [<- hlm]; simp
  have y0 := HPr.out.cell (o := 0) rfl
  clear x0 hrow hkd hkw hlm
  by_cases hlt : k < ks.length
  ·obtain ⟨pr, hpr⟩ : ∃ p, l[k]? = some p := ⟨_, List.getElem?_eq_getElem (by rw [HLL.out]; exact hlt)⟩
   obtain ⟨c, kv⟩ := pr
   have hka := (HKD.out k _ hpr).2 (Nat.le_refl _)
   have hcm : c ∈ ks := by rw [<- HLM.out]; exact List.mem_map.2 ⟨_, List.mem_of_getElem? hpr, rfl⟩
   have hc3 : c.kids.length <= 3 := HKL.out c hcm
   have HPRK : Hid (l[k]? = some (c, kv)) := hpr
   have HCD : Hid (∀ U, Below wr.heap.size wr U -> Calls Tryz.prog 113 #[kv] U fun e w' => ∃ v, e = .returned v /\ (w'.ownsRow V.heap.size 108 2 v c.kids.length (c.kids.flatMap kidEnc) /\ Below wr.heap.size wr w')) := fun U hU => by
    refine (cloneD_calls kv c.kids U ((kids_list hka).below hU (Nat.le_refl _)) (by omega)).mono ?_
    rintro e w' ⟨v', rfl, h1, h2⟩
    exact ⟨v', rfl, ownsRow_base h1 (by have := hU.size; omega), hU.trans (h2.mono hU.size)⟩
   obtain ⟨ka, kc, hkf, -⟩ := hka
   dsimp only at hkf
   subst hkf
   obtain ⟨g, cp, hgf, hg1, hg2⟩ := World.ownsRow.form HROW.out (by omega)
   cases hgf
   have e2 : wr.cell? ⟨g, k * 3 + 2, none⟩ = some (.slice ka c.kids.length kc) := by
    have := HROW.out.cells (g := g) rfl (k * 3 + 2) _ (flat_get (sz := 3) (enc := kindEnc) (fun _ => rfl) l k _ 2 _ hpr rfl)
    rwa [addr_add] at this
   have j1 : (0 : Int) <= (k : Int) := by omega
   have j2 : (k : Int) < (ks.length : Int) := by omega
   clear hpr hcm
   go_upto_region 5 with fail
   go_region_law (refine step_call1 (by rfl) 113 _ _ (by rfl) (.slice ka c.kids.length kc) (by rfl) (enters_of Tryz.func113 (by kernel_rfl) rfl) (HCD.out _ (by first | assumption | exact Below.refl _ _ | exact (Below.refl _ _).drew | exact Below.drew (by assumption))) ?_; rintro v9 w9 ⟨hr9, hb9⟩; obtain ⟨a9, c9, rfl⟩ := row_form hr9; have hP9 := HPr.out.below hb9 HPr.out.lt; have u0 := hP9.cell (o := 0) rfl; have hrw9 := row_below HROW.out hb9 (fun g e => (HROW.out.lt g e).2); have u2 : w9.cell? ⟨g, k * 3 + 2, none⟩ = some (.slice ka c.kids.length kc) := (hb9.cell (p := ⟨g, k * 3 + 2, none⟩) hg2).trans e2; have u3 : w9.frozen? ⟨g, k * 3 + 2, none⟩ = false := row_frozen hrw9 _)
   all_goals
    go_wp2_with fail
    go_roundw
    case rel =>
     have k9 : Kept (fun b => V.heap.size <= b) wr (w9.setCell ⟨g, k * 3 + 2, none⟩ (.slice a9 c.kids.length c9)) := (Kept.of_below hb9 (X := fun b => V.heap.size <= b) (fun b h1 h2 => by omega)).trans ((Kept.refl _ _).setCell (.inl hg1) _)
     have ks9 : Kept (· = g) w9 (w9.setCell ⟨g, k * 3 + 2, none⟩ (.slice a9 c.kids.length c9)) := (Kept.refl _ _).setCell (.inl (by rfl)) _
     have hkid : ∀ (u : Value) (d : List KidS), w9.ownsRow V.heap.size 108 2 u d.length (kidCells d) -> (w9.setCell ⟨g, k * 3 + 2, none⟩ (.slice a9 c.kids.length c9)).ownsRow V.heap.size 108 2 u d.length (kidCells d) := fun u d h => row_kept h ks9 (fun g' e h' => by
      subst h'
      obtain ⟨cs1, h1⟩ := row_obj h e
      obtain ⟨cs2, h2⟩ := row_obj hrw9 (g := g') rfl
      have := h1.symm.trans h2
      simp at this) (Nat.le_refl _)
     refine ⟨k + 1, l.set k (c, .slice a9 c.kids.length c9), by omega, by go_num, ?_, ?_, fun j p hp => ?_, HKW.out.trans k9⟩
     ·have hcc : (l.map Prod.fst)[k]? = some c := by rw [List.getElem?_map, HPRK.out]; rfl
      rw [List.map_set]
      refine Eq.trans ?_ HLM.out
      refine List.ext_getElem? fun i => ?_
      by_cases h : k = i
      ·subst h
       rw [hcc, List.getElem?_set_self (by rw [List.length_map, HLL.out]; exact hlt)]
      ·rw [List.getElem?_set_ne h]
     ·rw [<- kinds_set l k c _ _ HPRK.out]
      exact row_raise (row_putAll (e := 111) (sz := 3) (n := ks.length) (g := g) [.slice a9 c.kids.length c9] (l.flatMap kindEnc) (k * 3 + 2) w9 (ownsRow_base hrw9 (Nat.zero_le _)) (by show k * 3 + 2 + 1 <= ks.length * 3; omega)) hg1
     ·by_cases h : k = j
      ·subst h
       rw [List.getElem?_set_self (by rw [HLL.out]; exact hlt)] at hp
       cases hp
       exact ⟨fun _ => hkid _ _ hr9, fun h => absurd h (by omega)⟩
      ·rw [List.getElem?_set_ne h] at hp
       refine ⟨fun hj => hkid _ _ (row_below ((HKD.out j p hp).1 (by omega)) hb9 (fun g' e => (((HKD.out j p hp).1 (by omega)).lt g' e).2)), fun hj => ((HKD.out j p hp).2 (by omega)).kept k9 (fun b h1 h2 => by omega)⟩
    case measure => simp [intOf]; omega
  ·obtain rfl : k = ks.length := by omega
   have p0 := HPr.out.cell (o := 0) rfl
   have p1 := HPr.out.cell (o := 1) rfl
   have p2 := HPr.out.cell (o := 2) rfl
   have z0 := HZr.out.cell (o := 0) rfl
   have z1 := HZr.out.cell (o := 1) rfl
   have z2 := HZr.out.cell (o := 2) rfl
   have f0 := HZr.out.frozen 0
   have f1 := HZr.out.frozen 1
   have f2 := HZr.out.frozen 2
   go_wp2_with fail
   have kz : Kept (· = w.heap.size + 1) wr (((wr.setCell ⟨w.heap.size + 1, 0, none⟩ (.slice a1 ks.length c1)).setCell ⟨w.heap.size + 1, 1, none⟩ (.int .i64 kind)).setCell ⟨w.heap.size + 1, 2, none⟩ (.int .i64 arg)) := (((Kept.refl _ _).setCell (.inl (by rfl)) _).setCell (.inl (by rfl)) _).setCell (.inl (by rfl)) _
   have hbz := ((HZr.out.setAt 0 (.slice a1 ks.length c1)).setAt 1 (.int .i64 kind)).setAt 2 (.int .i64 arg)
   have r0 := hbz.cell (o := 0) rfl
   have r1 := hbz.cell (o := 1) rfl
   have r2 := hbz.cell (o := 2) rfl
   refine bodyPost_ret (v := .agg #[.slice a1 ks.length c1, .int .i64 kind, .int .i64 arg]) (by simp [results, Tryz.results69, go_sem, r0, r1, r2]) rfl ⟨_, _, rfl, ?_, ?_⟩
   ·have hKR : KindsRow wr V.heap.size (.slice a1 ks.length c1) l := ⟨by rw [HLL.out]; exact HROW.out, fun p hp => by
     obtain ⟨j, hj⟩ := List.mem_iff_getElem?.1 hp
     have hjl := (List.getElem?_eq_some_iff.1 hj).1
     exact (HKD.out j p hj).1 (by have := HLL.out; omega)⟩
    have h := hKR.at
    rw [HLM.out] at h
    exact (h.kept kz (fun b h1 h2 => by omega)).mono' (fun b hb => by omega)
   ·exact (HB2.out.trans (HKW.out.below (by omega) (fun b h => by omega))).trans (kz.below (by omega) (fun b h => by omega))
theorem infoXW : (Tryz.prog.info? 136).map (fun i => (i.zero, i.size, i.bytes)) = some (some (.agg #[.pointer none, .bool false, .slice none 0 0, .slice none 0 0, .int .i64 0, .int .i64 0, .bool false]), 7, 88) := by kernel_rfl
structure XBorn (part : Nat -> Nat) (W : World) (n : Nat) (room : Int) (i : Nat) (x : XW) (tl : List TaskS) : Prop where
 notes : x.Notes worker0
 tasks : TaskListAt (fun b => part b = 10 + i) W x.T room tl
 out : XLinksAt part i W x.outv (List.replicate n link0)
 ins : XInsAt part i W x.inv (List.replicate n (List.replicate n link0))
theorem XBorn.kept {part part' : Nat -> Nat} {Y : Nat -> Prop} {W W' : World} {n i : Nat} {room : Int} {x : XW} {tl : List TaskS} (h : XBorn part W n room i x tl) (k : Kept Y W W') (hx : ∀ g, g < W.heap.size -> 8 <= part g -> ¬ Y g /\ part' g = part g) : XBorn part' W' n room i x tl :=
 ⟨h.notes, h.tasks.kept k (fun g hg e => ⟨(hx g hg (by omega)).1, (hx g hg (by omega)).2.trans e⟩), h.out.kept k (fun g hg e => hx g hg (by omega)), h.ins.kept k (fun g hg e => hx g hg (by omega))⟩
theorem cells_born {cu : Array Value} {n k : Nat} {xs : List XW} {x : XW} (hcz : cu.size = n * 7) (hxl : xs.length = k) (hlt : k < n) (hxc : ∀ (j : Nat) (x : XW) (i : Nat) (u : Value), xs[j]? = some x -> (xwEnc x)[i]? = some u -> cu[j * 7 + i]? = some u) :
  ∀ (j : Nat) (y : XW) (i : Nat) (u : Value), (xs ++ [x])[j]? = some y -> (xwEnc y)[i]? = some u -> (((((((cu.setIfInBounds (k * 7) (.pointer (some ⟨x.T, 0, none⟩))).setIfInBounds (k * 7 + 1) (.bool x.asked)).setIfInBounds (k * 7 + 2) x.outv).setIfInBounds (k * 7 + 3) x.inv).setIfInBounds (k * 7 + 4) (.int .i64 x.sent)).setIfInBounds (k * 7 + 5) (.int .i64 x.came)).setIfInBounds (k * 7 + 6) (.bool x.black))[j * 7 + i]? = some u := by
 intro j y i u hy hu
 rcases get_snoc hy with ⟨hj, hx'⟩ | ⟨hj, rfl⟩
 ·have h1 := hxc j y i u hx' hu
  have hi3 : i < 7 := (List.getElem?_eq_some_iff.1 hu).1
  have hjk : j < k := by omega
  rw [Array.getElem?_setIfInBounds_ne (by omega), Array.getElem?_setIfInBounds_ne (by omega), Array.getElem?_setIfInBounds_ne (by omega), Array.getElem?_setIfInBounds_ne (by omega), Array.getElem?_setIfInBounds_ne (by omega), Array.getElem?_setIfInBounds_ne (by omega), Array.getElem?_setIfInBounds_ne (by omega)]
  exact h1
 ·rw [hxl] at hj
  subst hj
  match i, hu with
  | 0, hu => cases hu; rw [show j * 7 + 0 = j * 7 from rfl, Array.getElem?_setIfInBounds_ne (by omega), Array.getElem?_setIfInBounds_ne (by omega), Array.getElem?_setIfInBounds_ne (by omega), Array.getElem?_setIfInBounds_ne (by omega), Array.getElem?_setIfInBounds_ne (by omega), Array.getElem?_setIfInBounds_ne (by omega), Array.getElem?_setIfInBounds_self_of_lt (by omega)]
  | 1, hu => cases hu; rw [Array.getElem?_setIfInBounds_ne (by omega), Array.getElem?_setIfInBounds_ne (by omega), Array.getElem?_setIfInBounds_ne (by omega), Array.getElem?_setIfInBounds_ne (by omega), Array.getElem?_setIfInBounds_ne (by omega), Array.getElem?_setIfInBounds_self_of_lt (by simp; omega)]
  | 2, hu => cases hu; rw [Array.getElem?_setIfInBounds_ne (by omega), Array.getElem?_setIfInBounds_ne (by omega), Array.getElem?_setIfInBounds_ne (by omega), Array.getElem?_setIfInBounds_ne (by omega), Array.getElem?_setIfInBounds_self_of_lt (by simp; omega)]
  | 3, hu => cases hu; rw [Array.getElem?_setIfInBounds_ne (by omega), Array.getElem?_setIfInBounds_ne (by omega), Array.getElem?_setIfInBounds_ne (by omega), Array.getElem?_setIfInBounds_self_of_lt (by simp; omega)]
  | 4, hu => cases hu; rw [Array.getElem?_setIfInBounds_ne (by omega), Array.getElem?_setIfInBounds_ne (by omega), Array.getElem?_setIfInBounds_self_of_lt (by simp; omega)]
  | 5, hu => cases hu; rw [Array.getElem?_setIfInBounds_ne (by omega), Array.getElem?_setIfInBounds_self_of_lt (by simp; omega)]
  | 6, hu => cases hu; rw [Array.getElem?_setIfInBounds_self_of_lt (by simp; omega)]
  | (m + 7), hu => simp [xwEnc] at hu
set_option maxHeartbeats 4000000 in
set_option maxRecDepth 100000 in
theorem newWorkers_calls (n : Nat) (room mode : Int) (t : TaskS) (w : World) (hn2 : 2 <= n) (hn5 : n <= 5) :
  Calls Tryz.prog 70 #[.agg #[.int .i64 n, .int .i64 room, .int .i64 mode], .agg #[.string t.id, .int .i64 t.kind, .int .i64 t.arg]] w fun e w' => ∃ (part : Nat -> Nat) (g : Nat) (xs : List XW), e = .returned (.slice (some ⟨g, 0, none⟩) n n) /\ (∀ b, part b ≠ 0 -> w.heap.size <= b /\ b < w'.heap.size /\ 7 <= part b) /\
   RowIn (fun b => part b = 7) 136 7 xwEnc w' (.slice (some ⟨g, 0, none⟩) n n) xs /\ xs.length = n /\ (∀ i x, xs[i]? = some x -> XBorn part w' n room i x (if i = 0 then [t] else [])) /\ Below w.heap.size w w' := by
 obtain ⟨i0, hi0, hz0, hz1, hz2⟩ := info_parts infoXW
 obtain ⟨V, hV⟩ : ∃ V, (w.alloc (Obj.cells #[.int .i64 n, .int .i64 room, .int .i64 mode] 39)).alloc (Obj.cells #[.string t.id, .int .i64 t.kind, .int .i64 t.arg] 76) = V := ⟨_, rfl⟩
 have bC : BoxAt V w.heap.size 39 #[.int .i64 n, .int .i64 room, .int .i64 mode] := by rw [<- hV]; exact (BoxAt.new w _ _).alloc _
 have bT : BoxAt V (w.heap.size + 1) 76 #[.string t.id, .int .i64 t.kind, .int .i64 t.arg] := by
  rw [<- hV]; have := BoxAt.new (w.alloc (Obj.cells #[.int .i64 n, .int .i64 room, .int .i64 mode] 39)) 76 #[.string t.id, .int .i64 t.kind, .int .i64 t.arg]
  rw [World.size_alloc] at this; exact this
 have hbV : Below w.heap.size w V := by rw [<- hV]; exact ((Below.refl _ _).alloc (Nat.le_refl _) _).alloc (by simp) _
 have sV : V.heap.size = w.heap.size + 2 := by rw [<- hV]; simp
 have c0 := bC.cell (o := 0) rfl
 have HBC := hid_of bC
 have HBT := hid_of bT
 have HBV := hid_of hbV
 clear bC bT hbV
 go_enter Tryz.func70, Tryz.ntmps70
 go_wp2_with (at_make; refine wpList_make_full _ rfl _ _ 122 rfl V.heap.size 136 i0 _ 7 Tryz.underlying122 hi0 hz0 hz1 .i64 .i64 _ _ n rfl rfl (by simp) (by simp) (by rw [hz2]; omega) (by unfold maxLen; omega) (Nat.le_refl _) ?_; intro w1 hown1 hgrow1)
 obtain ⟨cur, hcur, hcn⟩ : ∃ cur, BoxAt w1 V.heap.size 136 cur /\ cur.size = n * 7 := by
  rcases hown1.2 with ⟨h0, _⟩ | ⟨g', cap', cur, h0, hb, hcur, hnc, hcm, hcs, htk⟩
  ·cases h0
  ·cases h0
   exact ⟨cur, hcur, hcs⟩
 have hb1 : Below V.heap.size V w1 := (Kept.grown hgrow1 (X := fun _ => False) (fun r e => by cases e)).below (Nat.le_refl _) (fun _ h => h.elim)
 have HB1 := hid_of hb1
 obtain ⟨G, hG⟩ : ∃ G, w.heap.size + 2 = G := ⟨_, rfl⟩
 rw [sV, hG] at hcur
 rw [hG]
 have HCUR := hid_of hcur
 have HCN : Hid (cur.size = n * 7) := hcn
 have sz1 := hcur.lt
 have HC1 : Hid (BoxAt w1 w.heap.size 39 #[.int .i64 n, .int .i64 room, .int .i64 mode]) := HBC.out.below hb1 HBC.out.lt
 have HT1 : Hid (BoxAt w1 (w.heap.size + 1) 76 #[.string t.id, .int .i64 t.kind, .int .i64 t.arg]) := HBT.out.below hb1 HBT.out.lt
 have HBW1 : Hid (Below w.heap.size w w1) := HBV.out.trans (hb1.mono (by omega))
 clear hown1 hgrow1 hcur hb1 hcn c0 hV
 go_loopw [12] (fun iv wr => ∃ (k : Nat) (part : Nat -> Nat) (cur : Array Value) (xs : List XW), k <= n /\ iv = .int .i64 k /\ BoxAt wr G 136 cur /\ cur.size = n * 7 /\ xs.length = k /\ (∀ j x i u, xs[j]? = some x -> (xwEnc x)[i]? = some u -> cur[j * 7 + i]? = some u) /\ (∀ b, part b ≠ 0 -> G < b /\ 8 <= part b) /\ (∀ i x, xs[i]? = some x -> XBorn part wr n room i x []) /\ Kept (· = G) w1 wr) (fun iv _ => n - (intOf iv).toNat)
 case atStart => exact ⟨0, fun _ => 0, cur, [], Nat.zero_le _, rfl, HCUR.out, HCN.out, rfl, (fun j x i u h => by simp at h), (fun b h => absurd rfl h), (fun i x h => by simp at h), Kept.refl _ _⟩
 case round =>
  obtain ⟨k, part, cu, xs, hk, rfl, hbox, hcz, hxl, hxc, hpt, htl, hkw⟩ := hrel
  rename World => wr
  have HBOX := hid_of hbox
  have HCZ : Hid (cu.size = n * 7) := hcz
  have HXL : Hid (xs.length = k) := hxl
  have HXC := hid_of hxc
  have HPT := hid_of hpt
  have HTL := hid_of htl
  have HKW := hid_of hkw
  have szr := hkw.size
  have HCr : Hid (BoxAt wr w.heap.size 39 #[.int .i64 n, .int .i64 room, .int .i64 mode]) := HC1.out.kept hkw (by omega)
  have HTr : Hid (BoxAt wr (w.heap.size + 1) 76 #[.string t.id, .int .i64 t.kind, .int .i64 t.arg]) := HT1.out.kept hkw (by omega)
  have c0 := HCr.out.cell (o := 0) rfl
  have c1 := HCr.out.cell (o := 1) rfl
  clear hbox hcz hxl hxc hpt htl hkw
  by_cases hlt : k < n
  ·have j1 : (0 : Int) <= (k : Int) := by omega
   have j2 : (k : Int) < (n : Int) := by omega
   have HNW : Hid (∀ U, Below wr.heap.size wr U -> Calls Tryz.prog 114 #[.int .i64 room, .slice none 0 0] U fun e w' => ∃ v, e = .returned v /\ ∃ T, v = .pointer (some ⟨T, 0, none⟩) /\ TaskListAt (fun b => wr.heap.size <= b) w' T room [] /\ Below wr.heap.size wr w') := fun U hU => by
    refine (tasksNew_calls room (.slice none 0 0) [] U (ListAt.nil _ _ _) (by simp)).mono ?_
    rintro e w' ⟨T, tv, rfl, h1, h2, h3, h4⟩
    have := hU.size
    exact ⟨_, rfl, T, rfl, ⟨tv, h1, by omega, ownsRow_base h3 (Nat.zero_le _), fun g e => by have := (h3.lt g e).1; omega⟩, hU.trans (h4.mono hU.size)⟩
   have HNL : Hid (∀ U, Below wr.heap.size wr U -> Calls Tryz.prog 115 #[.int .i64 k, .int .i64 n, .func (.func 116) #[] #[]] U fun e w' => ∃ v, e = .returned v /\ ∃ g partL, v = .slice (some ⟨g, 0, none⟩) n n /\ (∀ b, partL b ≠ 0 -> U.heap.size <= b /\ (partL b = 9 \/ (100 + 10 * k <= partL b /\ partL b < 100 + 10 * k + n))) /\ XLinksAt partL k w' (.slice (some ⟨g, 0, none⟩) n n) (List.replicate n link0) /\ Below U.heap.size U w' /\ Below wr.heap.size wr w') := fun U hU => by
    refine (newLinks_calls k n U hn5 hlt).mono ?_
    rintro e w' ⟨g, partL, rfl, hpL, hL, h1⟩
    exact ⟨_, rfl, g, partL, rfl, hpL, hL, h1, hU.trans (h1.mono hU.size)⟩
   have HNI : Hid (∀ U, Below wr.heap.size wr U -> Calls Tryz.prog 117 #[.int .i64 k, .int .i64 n, .func (.func 118) #[] #[]] U fun e w' => ∃ v, e = .returned v /\ ∃ g partL, v = .slice (some ⟨g, 0, none⟩) n n /\ (∀ b, partL b ≠ 0 -> U.heap.size <= b /\ (partL b = 8 \/ (200 + 10 * k <= partL b /\ partL b < 200 + 10 * k + n))) /\ XInsAt partL k w' (.slice (some ⟨g, 0, none⟩) n n) (List.replicate n (List.replicate n link0)) /\ Below U.heap.size U w' /\ Below wr.heap.size wr w') := fun U hU => by
    refine (newIns_calls k n U hn5 hlt).mono ?_
    rintro e w' ⟨g, partL, rfl, hpL, hL, h1⟩
    exact ⟨_, rfl, g, partL, rfl, hpL, hL, h1, hU.trans (h1.mono hU.size)⟩
   go_upto_region 5 with fail
   go_region_law (first
    | (refine step_call2 (by rfl) 114 _ _ _ (by rfl) (.int .i64 room) (.slice none 0 0) (by rfl) (by rfl) (enters_of Tryz.func114 (by kernel_rfl) rfl) (HNW.out _ (by first | assumption | exact Below.refl _ _ | exact (Below.refl _ _).drew | exact Below.drew (by assumption))) ?_; rintro v8 w8 ⟨T, rfl, ht8, hb8⟩; have hC8 := HCr.out.below hb8 HCr.out.lt; have d0 := hC8.cell (o := 0) rfl; have d1 := hC8.cell (o := 1) rfl)
    | (refine step_call3 (by rfl) 115 _ _ _ _ (by rfl) (.int .i64 k) (.int .i64 n) (.func (.func 116) #[] #[]) (by rfl) (by rfl) (by rfl) (enters_of Tryz.func115 (by kernel_rfl) rfl) (HNL.out _ (by first | assumption | exact Below.refl _ _ | exact (Below.refl _ _).drew | exact Below.drew (by assumption))) ?_; rintro v9 w9 ⟨g9, partL, rfl, hpL, hL9, hU9, hb9⟩; have hC9 := HCr.out.below hb9 HCr.out.lt; have d2 := hC9.cell (o := 0) rfl; have d3 := hC9.cell (o := 1) rfl)
    | (refine step_call3 (by rfl) 117 _ _ _ _ (by rfl) (.int .i64 k) (.int .i64 n) (.func (.func 118) #[] #[]) (by rfl) (by rfl) (by rfl) (enters_of Tryz.func117 (by kernel_rfl) rfl) (HNI.out _ (by first | assumption | exact Below.refl _ _ | exact (Below.refl _ _).drew | exact Below.drew (by assumption))) ?_; rintro vA wA ⟨gA, partI, rfl, hpI, hLA, hUA, hbA⟩; have hxA := HBOX.out.below hbA HBOX.out.lt; obtain ⟨o0, ho0⟩ := get_some (cs := cu) (i := k * 7) (by rw [HCZ.out]; omega); have y0 := hxA.cell ho0; have z0 := hxA.frozen (k * 7); obtain ⟨o1, ho1⟩ := get_some (cs := cu) (i := k * 7 + 1) (by rw [HCZ.out]; omega); have y1 := hxA.cell ho1; have z1 := hxA.frozen (k * 7 + 1); obtain ⟨o2, ho2⟩ := get_some (cs := cu) (i := k * 7 + 2) (by rw [HCZ.out]; omega); have y2 := hxA.cell ho2; have z2 := hxA.frozen (k * 7 + 2); obtain ⟨o3, ho3⟩ := get_some (cs := cu) (i := k * 7 + 3) (by rw [HCZ.out]; omega); have y3 := hxA.cell ho3; have z3 := hxA.frozen (k * 7 + 3); obtain ⟨o4, ho4⟩ := get_some (cs := cu) (i := k * 7 + 4) (by rw [HCZ.out]; omega); have y4 := hxA.cell ho4; have z4 := hxA.frozen (k * 7 + 4); obtain ⟨o5, ho5⟩ := get_some (cs := cu) (i := k * 7 + 5) (by rw [HCZ.out]; omega); have y5 := hxA.cell ho5; have z5 := hxA.frozen (k * 7 + 5); obtain ⟨o6, ho6⟩ := get_some (cs := cu) (i := k * 7 + 6) (by rw [HCZ.out]; omega); have y6 := hxA.cell ho6; have z6 := hxA.frozen (k * 7 + 6); clear ho0 ho1 ho2 ho3 ho4 ho5 ho6))
   all_goals
    go_wp2_with fail
    go_roundw
    case rel =>
     obtain ⟨W9, hW9⟩ : ∃ W9, ((((((wA.setCell ⟨G, k * 7, none⟩ (.pointer (some ⟨T, 0, none⟩))).setCell ⟨G, k * 7 + 1, none⟩ (.bool false)).setCell ⟨G, k * 7 + 2, none⟩ (.slice (some ⟨g9, 0, none⟩) n n)).setCell ⟨G, k * 7 + 3, none⟩ (.slice (some ⟨gA, 0, none⟩) n n)).setCell ⟨G, k * 7 + 4, none⟩ (.int .i64 0)).setCell ⟨G, k * 7 + 5, none⟩ (.int .i64 0)).setCell ⟨G, k * 7 + 6, none⟩ (.bool false) = W9 := ⟨_, rfl⟩
     have hbox9 : BoxAt W9 G 136 (((((((cu.setIfInBounds (k * 7) (.pointer (some ⟨T, 0, none⟩))).setIfInBounds (k * 7 + 1) (.bool false)).setIfInBounds (k * 7 + 2) (.slice (some ⟨g9, 0, none⟩) n n)).setIfInBounds (k * 7 + 3) (.slice (some ⟨gA, 0, none⟩) n n)).setIfInBounds (k * 7 + 4) (.int .i64 0)).setIfInBounds (k * 7 + 5) (.int .i64 0)).setIfInBounds (k * 7 + 6) (.bool false)) := by rw [<- hW9]; exact ((((((hxA.setAt _ _).setAt _ _).setAt _ _).setAt _ _).setAt _ _).setAt _ _).setAt _ _
     have k99 : Kept (· = G) wA W9 := by rw [<- hW9]; exact (((((((Kept.refl _ _).setCell (.inl (by rfl)) _).setCell (.inl (by rfl)) _).setCell (.inl (by rfl)) _).setCell (.inl (by rfl)) _).setCell (.inl (by rfl)) _).setCell (.inl (by rfl)) _).setCell (.inl (by rfl)) _
     have kr9 : Kept (· = G) wr W9 := (Kept.of_below hbA (X := (· = G)) (fun b h1 h2 => by omega)).andThen k99 (fun b _ h => h)
     have s8 := hb8.size
     have s9 := hU9.size
     have sA := hUA.size
     have h8A : Below w8.heap.size w8 wA := hU9.trans (hUA.mono s9)
     have hT9 : TaskListAt (fun b => wr.heap.size <= b /\ b < w8.heap.size) wA T room [] := ht8.kept (Kept.of_below h8A (X := fun b => w8.heap.size <= b) (fun _ _ h => h)) (fun g hg h => ⟨by omega, h, hg⟩)
     have hLA9 : XLinksAt (fun b => if b < w9.heap.size then partL b else 0) k wA (.slice (some ⟨g9, 0, none⟩) n n) (List.replicate n link0) := hL9.kept (Kept.of_below hUA (X := fun b => w9.heap.size <= b) (fun _ _ h => h)) (fun g hg h => ⟨by omega, if_pos hg⟩)
     have hGr := HBOX.out.lt
     rw [hW9]
     refine ⟨k + 1, fun b => if b < wr.heap.size then part b else if b < w8.heap.size then 10 + k else if b < w9.heap.size then partL b else partI b, _, xs ++ [⟨T, false, .slice (some ⟨g9, 0, none⟩) n n, .slice (some ⟨gA, 0, none⟩) n n, 0, 0, false⟩], by omega, by go_num, hbox9, by simp [HCZ.out], by rw [List.length_append, HXL.out]; rfl, cells_born (x := ⟨T, false, .slice (some ⟨g9, 0, none⟩) n n, .slice (some ⟨gA, 0, none⟩) n n, 0, 0, false⟩) HCZ.out HXL.out hlt HXC.out, fun b hb => ?_, fun i x hx => ?_, HKW.out.trans kr9⟩
     ·dsimp only at hb ⊢
      by_cases h : b < wr.heap.size
      ·rw [if_pos h] at hb ⊢
       exact HPT.out b hb
      ·rw [if_neg h] at hb ⊢
       by_cases h8 : b < w8.heap.size
       ·rw [if_pos h8]; exact ⟨by omega, by omega⟩
       ·rw [if_neg h8] at hb ⊢
        by_cases h9 : b < w9.heap.size
        ·rw [if_pos h9] at hb ⊢
         have := (hpL b hb).2
         exact ⟨by omega, by omega⟩
        ·rw [if_neg h9] at hb ⊢
         have := (hpI b hb).2
         exact ⟨by omega, by omega⟩
     ·rcases get_snoc hx with ⟨hj, hx'⟩ | ⟨hj, rfl⟩
      ·exact (HTL.out i x hx').kept kr9 (fun g hg h => ⟨fun h' => by have := HPT.out g (by omega); omega, if_pos hg⟩)
      ·rw [HXL.out] at hj
       subst hj
       refine ⟨⟨rfl, rfl, rfl, rfl⟩, hT9.kept k99 (fun g hg h => ⟨fun h' => by omega, (if_neg (by omega)).trans (if_pos h.2)⟩), hLA9.kept k99 (fun g hg h => ?_), hLA.kept k99 (fun g hg h => ?_)⟩
       ·have h9 : g < w9.heap.size := by
         by_cases e : g < w9.heap.size
         ·exact e
         ·rw [if_neg e] at h; omega
        rw [if_pos h9] at h
        have := hpL g (by omega)
        exact ⟨fun h' => by omega, (if_neg (by omega)).trans ((if_neg (by omega)).trans ((if_pos h9).trans (if_pos h9).symm))⟩
       ·have := hpI g (by omega)
        exact ⟨fun h' => by omega, (if_neg (by omega)).trans ((if_neg (by omega)).trans (if_neg (by omega)))⟩
    case measure => simp [intOf]; omega
  ·obtain rfl : n = k := by omega
   have t0 := HTr.out.cell (o := 0) rfl
   have t1 := HTr.out.cell (o := 1) rfl
   have t2 := HTr.out.cell (o := 2) rfl
   obtain ⟨w4, hw4⟩ : ∃ w4, wr.alloc (Obj.cells #[.string t.id, .int .i64 t.kind, .int .i64 t.arg] 76) = w4 := ⟨_, rfl⟩
   have hb4 : Below wr.heap.size wr w4 := by rw [<- hw4]; exact (Below.refl _ _).alloc (Nat.le_refl _) _
   have sz4 : w4.heap.size = wr.heap.size + 1 := by rw [<- hw4]; simp
   have hL4 : ListAt 3 taskEnc w4 (.slice (some ⟨wr.heap.size, 0, none⟩) 1 1) [t] := by
    have hb := BoxAt.new wr 76 #[.string t.id, .int .i64 t.kind, .int .i64 t.arg]
    rw [hw4] at hb
    refine ⟨_, _, rfl, fun j x hx => ?_⟩
    cases j with
    | succ j => simp at hx
    | zero =>
     cases hx
     refine ⟨wr.heap.size, 0, rfl, hb.lt, fun i u hi => ?_⟩
     rw [show 0 + 0 * 3 + i = i from by omega]
     match i, hi with
     | 0, hi => cases hi; exact hb.cell (o := 0) rfl
     | 1, hi => cases hi; exact hb.cell (o := 1) rfl
     | 2, hi => cases hi; exact hb.cell (o := 2) rfl
     | (m + 3), hi => simp [taskEnc] at hi
   have HNT := hid_of (tasksNew_calls room (.slice (some ⟨wr.heap.size, 0, none⟩) 1 1) [t] w4 hL4 (by simp))
   have HB4 := hid_of hb4
   clear hL4 hb4
   have hGr := HBOX.out.lt
   go_wp2_with (go_at_call 114; refine HNT.out.mono ?_; rintro e w5 ⟨T, tv, rfl, hT5, hT5l, hrow5, hb5⟩; have hx5 := (HBOX.out.below HB4.out hGr).below hb5 (by omega); obtain ⟨o0, ho0⟩ := get_some (cs := cu) (i := 0) (by rw [HCZ.out]; omega); have y0 := hx5.cell ho0; have z0 := hx5.frozen 0)
   go_ret
   have hbw5 : Below wr.heap.size wr w5 := HB4.out.trans (hb5.mono (by omega))
   have k56 : Kept (· = G) w5 (w5.setCell ⟨G, 0, none⟩ (.pointer (some ⟨T, 0, none⟩))) := (Kept.refl _ _).setCell (.inl (by rfl)) _
   have kr6 : Kept (· = G) wr (w5.setCell ⟨G, 0, none⟩ (.pointer (some ⟨T, 0, none⟩))) := (Kept.of_below hbw5 (X := (· = G)) (fun b h1 h2 => by omega)).andThen k56 (fun b _ h => h)
   have hsz5 := hbw5.size
   obtain ⟨x0, hx0⟩ : ∃ x, xs[0]? = some x := ⟨_, List.getElem?_eq_getElem (by have := HXL.out; omega)⟩
   have hxl0 : 0 < xs.length := (List.getElem?_eq_some_iff.1 hx0).1
   have hT5w := hT5.lt
   have hcells : ∀ j x i u, (xs.set 0 { x0 with T := T })[j]? = some x -> (xwEnc x)[i]? = some u -> (cu.setIfInBounds 0 (.pointer (some ⟨T, 0, none⟩)))[j * 7 + i]? = some u := fun j x i u hx hu => by
    cases j with
    | zero =>
     rw [List.getElem?_set_self hxl0] at hx
     cases hx
     match i, hu with
     | 0, hu => cases hu; rw [Array.getElem?_setIfInBounds_self_of_lt (by rw [HCZ.out]; omega)]
     | (m + 1), hu =>
      rw [Array.getElem?_setIfInBounds_ne (by omega)]
      exact HXC.out 0 x0 (m + 1) u hx0 (by simpa [xwEnc] using hu)
    | succ j =>
     rw [List.getElem?_set_ne (by omega)] at hx
     rw [Array.getElem?_setIfInBounds_ne (by omega)]
     exact HXC.out (j + 1) x i u hx hu
   refine ⟨fun b => if b = G then 7 else if b < wr.heap.size then part b else if b < w5.heap.size then 10 else 0, G, xs.set 0 { x0 with T := T }, rfl, fun b hb => ?_, ⟨?_, fun g e => ?_⟩, by rw [List.length_set]; exact HXL.out, fun i x hx => ?_, ?_⟩
   ·dsimp only at hb ⊢
    by_cases h : b = G
    ·rw [if_pos h]; exact ⟨by omega, by simp; omega, by omega⟩
    ·rw [if_neg h] at hb ⊢
     by_cases h' : b < wr.heap.size
     ·rw [if_pos h'] at hb ⊢
      have := HPT.out b hb
      exact ⟨by omega, by simp; omega, by omega⟩
     ·rw [if_neg h'] at hb ⊢
      by_cases h'' : b < w5.heap.size
      ·rw [if_pos h'']; exact ⟨by omega, by simp; omega, by omega⟩
      ·rw [if_neg h''] at hb; exact absurd rfl hb
   ·have := row_of_cells (base := 0) (n := n) (sz := 7) (enc := xwEnc) (by omega) (fun _ => rfl) (hx5.setAt 0 (.pointer (some ⟨T, 0, none⟩))) (Nat.zero_le _) (by simp [HCZ.out]) (by rw [List.length_set]; exact HXL.out) (by unfold maxLen; omega) hcells
    rw [List.length_set, HXL.out]
    exact this
   ·simp [Value.ownBlock] at e
    exact if_pos e.symm
   ·cases i with
    | zero =>
     rw [List.getElem?_set_self hxl0] at hx
     cases hx
     have hB0 := (HTL.out 0 x0 hx0).kept (part' := fun b => if b = G then 7 else if b < wr.heap.size then part b else if b < w5.heap.size then 10 else 0) kr6 (fun g hg h => ⟨fun h' => by have := HPT.out g (by omega); omega, (if_neg (by have := HPT.out g (by omega); omega)).trans (if_pos hg)⟩)
     refine ⟨⟨hB0.notes.asked, hB0.notes.sent, hB0.notes.came, hB0.notes.black⟩, ⟨tv, hT5.kept k56 (by omega), ?_, row_kept (ownsRow_base hrow5 (Nat.zero_le _)) k56 (fun g e h => ?_) (Nat.le_refl _), fun g e => ?_⟩, hB0.out, hB0.ins⟩
     ·show (if T = G then 7 else if T < wr.heap.size then part T else if T < w5.heap.size then 10 else 0) = 10 + 0
      exact (if_neg (by omega)).trans ((if_neg (by omega)).trans (if_pos hT5w))
     ·have := (hrow5.lt g e).1; omega
     ·have := hrow5.lt g e
      exact (if_neg (by omega)).trans ((if_neg (by omega)).trans (if_pos (by omega)))
    | succ i =>
     rw [List.getElem?_set_ne (by omega)] at hx
     rw [if_neg (by omega)]
     exact (HTL.out (i + 1) x hx).kept kr6 (fun g hg h => ⟨fun h' => by have := HPT.out g (by omega); omega, (if_neg (by have := HPT.out g (by omega); omega)).trans (if_pos hg)⟩)
   ·exact HBW1.out.trans ((HKW.out.trans kr6).below (by have := HBW1.out.size; omega) (fun b h => by omega))
end Go.Proofs.YteahdfeialekbaaGreatDoor
namespace Go.Proofs.YteahdfeialekbaaGreatDoor
open Go Go.RowKit Go.Maps Go.WideMaps
set_option maxHeartbeats 4000000 in
set_option maxRecDepth 100000 in
theorem x_new_bad (a : Option Addr) (cap : Nat) (workers room mode kind arg : Int) (ks : List KindS) (w : World) (hk : KindsAt (fun _ => True) w (.slice a ks.length cap) ks) (hl : ks.length <= 9223372036854775806) (hl2 : ∀ k ∈ ks, k.kids.length <= 9223372036854775806) (hbad : newE workers room mode ks kind arg ≠ 0) :
  Calls Tryz.prog 27 #[.agg #[.int .i64 workers, .int .i64 room, .int .i64 mode], .agg #[.slice a ks.length cap, .int .i64 kind, .int .i64 arg]] w fun e w' => e = .returned (.tuple #[.pointer none, .int .i64 (newE workers room mode ks kind arg)]) /\ Below w.heap.size w w' := by
 obtain ⟨V, hV⟩ : ∃ V, (w.alloc (Obj.cells #[.int .i64 workers, .int .i64 room, .int .i64 mode] 39)).alloc (Obj.cells #[.slice a ks.length cap, .int .i64 kind, .int .i64 arg] 42) = V := ⟨_, rfl⟩
 have bC : BoxAt V w.heap.size 39 #[.int .i64 workers, .int .i64 room, .int .i64 mode] := by rw [<- hV]; exact (BoxAt.new w _ _).alloc _
 have bP : BoxAt V (w.heap.size + 1) 42 #[.slice a ks.length cap, .int .i64 kind, .int .i64 arg] := by
  rw [<- hV]; have := BoxAt.new (w.alloc (Obj.cells #[.int .i64 workers, .int .i64 room, .int .i64 mode] 39)) 42 #[.slice a ks.length cap, .int .i64 kind, .int .i64 arg]
  rw [World.size_alloc] at this; exact this
 have hbV : Below w.heap.size w V := by rw [<- hV]; exact ((Below.refl _ _).alloc (Nat.le_refl _) _).alloc (by simp) _
 have c0 := bC.cell (o := 0) rfl
 have c1 := bC.cell (o := 1) rfl
 have c2 := bC.cell (o := 2) rfl
 have HBP := hid_of bP
 have HKV : Hid (KindsAt (fun b => b < w.heap.size) V (.slice a ks.length cap) ks) := (hk.below.kept (Kept.of_below hbV (X := fun b => w.heap.size <= b) (fun _ _ h => h)) (fun b h1 h2 => by omega)).mono' (fun _ h => h.2)
 have HBV : Hid (Below w.heap.size w V) := hbV
 have HL2 : Hid (∀ k ∈ ks, k.kids.length <= 9223372036854775806) := hl2
 have sV : w.heap.size <= V.heap.size := hbV.size
 obtain ⟨cb, hcb⟩ : ∃ cb, cfgB workers room mode = cb := ⟨_, rfl⟩
 have HCF := hid_of (isConfig_calls workers room mode V)
 rw [hcb] at HCF
 obtain ⟨ne, hne⟩ : ∃ ne, newE workers room mode ks kind arg = ne := ⟨_, rfl⟩
 have HNE : Hid (ne = if cb then (unfoldS ks kind arg).1 else 2) := by show _ = _; rw [<- hne, <- hcb]; rfl
 rw [hne] at hbad ⊢
 clear bC bP hbV hk hl2 hcb hne
 go_enter Tryz.func27, Tryz.ntmps27
 cases cb with
 | false =>
  obtain rfl : (2 : Int) = ne := HNE.out.symm
  go_wp2_with (go_at_call 68; refine HCF.out.mono ?_; rintro e w1 ⟨rfl, hb1⟩)
  go_ret2
  exact ⟨rfl, HBV.out.trans (hb1.mono sV)⟩
 | true =>
  obtain rfl : (unfoldS ks kind arg).1 = ne := HNE.out.symm
  go_upto_region 3 with (go_at_call 68; refine HCF.out.mono ?_; rintro e w1 ⟨rfl, hb1⟩)
  have hP1 := HBP.out.below hb1 HBP.out.lt
  have p0 := hP1.cell (o := 0) rfl
  have p1 := hP1.cell (o := 1) rfl
  have p2 := hP1.cell (o := 2) rfl
  have HU := hid_of (unfold_calls a cap kind arg ks w1 ((HKV.out.kept (Kept.of_below hb1 (X := fun b => V.heap.size <= b) (fun _ _ h => h)) (fun b h1 h2 => by omega)).mono' (fun _ _ => trivial)) hl HL2.out)
  have hb : ((unfoldS ks kind arg).1 != 0) = true := by simpa using hbad
  clear hP1
  go_wp2_with (go_at_call 26; refine HU.out.mono ?_; rintro e w2 ⟨v2, rfl, -, hb2⟩)
  go_ret2
  exact ⟨rfl, (HBV.out.trans (hb1.mono sV)).trans (hb2.mono (by have := hb1.size; omega))⟩
theorem below_alloc {A W : World} (h : Below A.heap.size A W) (o : Obj) : Below A.heap.size A (W.alloc o) := h.alloc h.size o
theorem xok_new {n : Nat} {room mode kind arg : Int} {ks : List KindS} {W : World} {base B M lo hi lo2 hi2 g : Nat} {kv : Value} {part : Nat -> Nat} {xs : List XW} (hn : 0 < n) (hbox : BoxAt W B 127 #[kv, .int .i64 kind, .int .i64 arg, .slice (some ⟨g, 0, none⟩) n n, .slice none 0 0, .map (some M), .bool false]) (hK : KindsAt (fun b => lo <= b /\ b < hi) W kv ks)
  {D : DataW Unit} (hM : MapIs W M D) (hD : Maps.size D = 0) (hpt : ∀ b, part b ≠ 0 -> lo2 <= b /\ b < hi2 /\ 7 <= part b) (hrow : RowIn (fun b => part b = 7) 136 7 xwEnc W (.slice (some ⟨g, 0, none⟩) n n) xs) (hxl : xs.length = n) (hn5 : n <= 5) (htl : ∀ i x, xs[i]? = some x -> XBorn part W n room i x (if i = 0 then [⟨⟨#[]⟩, kind, arg⟩] else []))
  (h1 : base <= lo) (h2 : hi <= lo2) (h3 : M < lo \/ (hi <= M /\ M < lo2) \/ hi2 <= M) (h4 : base <= M) (h5 : hi2 <= B) (h6 : M ≠ B) (h7 : lo <= lo2) (h8 : lo2 <= hi2) : XOK (fun b => base <= b) W B (newS n room mode ks kind arg) := by
 have hpp : ∀ g', part g' ≠ 0 -> (fun b => if b = B then 1 else if b = M then 3 else if lo <= b /\ b < hi then 6 else part b) g' = part g' := fun g' hne => by
  have h := hpt g' hne
  exact (if_neg (by omega)).trans ((if_neg (by omega)).trans (if_neg (by omega)))
 refine ⟨fun b => if b = B then 1 else if b = M then 3 else if lo <= b /\ b < hi then 6 else part b, fun b hb => ?_, ⟨kv, _, _, M, xs, hbox, if_pos rfl, hK.mono' (fun b hb => ?_), ⟨hrow.1, fun g' e => ?_⟩, by rw [hxl]; simp [newS]; omega, fun i x y hx hy => ?_, by simp [newS]; omega, fun ls hls => ?_, by simp [newS]; omega, fun i x ls hx hl => ?_, fun i x hx => ?_, RowIn.nil _ _ _ _ _, ⟨D, hM, (if_neg h6).trans (if_pos rfl), by omega⟩⟩⟩
 ·dsimp only at hb
  by_cases e1 : b = B
  ·omega
  ·rw [if_neg e1] at hb
   by_cases e2 : b = M
   ·omega
   ·rw [if_neg e2] at hb
    by_cases e3 : lo <= b /\ b < hi
    ·omega
    ·rw [if_neg e3] at hb
     have := hpt b hb
     omega
 ·exact (if_neg (by omega)).trans ((if_neg (by omega)).trans (if_pos hb))
 ·have := hrow.2 g' e
  exact (hpp g' (by omega)).trans this
 ·have q := htl i x hx
  have hy' : y.tasks = (if i = 0 then [⟨⟨#[]⟩, kind, arg⟩] else []) /\ y.asked = false /\ y.sent = 0 /\ y.came = 0 /\ y.black = false := by
   cases i with
   | zero => simp [newS] at hy; subst hy; exact ⟨rfl, rfl, rfl, rfl, rfl⟩
   | succ i =>
    have : (List.replicate ((n : Int).toNat - 1) worker0)[i]? = some y := by simpa [newS] using hy
    rw [replicate_get this]
    exact ⟨rfl, rfl, rfl, rfl, rfl⟩
  rw [hy'.1]
  exact ⟨⟨q.notes.asked.trans hy'.2.1.symm, q.notes.sent.trans hy'.2.2.1.symm, q.notes.came.trans hy'.2.2.2.1.symm, q.notes.black.trans hy'.2.2.2.2.symm⟩, q.tasks.kept (Kept.refl (fun _ => False) W) (fun g' _ e => ⟨fun h => h, (hpp g' (by omega)).trans e⟩)⟩
 ·have : ls = List.replicate n link0 := by
   have := List.eq_of_mem_replicate hls
   simpa using this
  rw [this]
  simp [newS]; omega
 ·have hl' : ls = List.replicate n link0 := by
   have : (List.replicate (n : Int).toNat (List.replicate (n : Int).toNat link0))[i]? = some ls := hl
   rw [replicate_get this]; simp
  rw [hl']
  exact (htl i x hx).out.kept (Kept.refl (fun _ => False) W) (fun g' _ e => ⟨fun h => h, hpp g' (by omega)⟩)
 ·have hl' : (newS n room mode ks kind arg).links = List.replicate n (List.replicate n link0) := by simp [newS]
  rw [hl']
  exact (htl i x hx).ins.kept (Kept.refl (fun _ => False) W) (fun g' _ e => ⟨fun h => h, hpp g' (by omega)⟩)
theorem xfin {n : Nat} {room mode kind arg : Int} {ks : List KindS} {W W3 W5 : World} {base B M lo lo2 g : Nat} {kv : Value} {part : Nat -> Nat} {xs : List XW} {D : DataW Unit} (hn : 0 < n) (hbox : BoxAt W B 127 #[kv, .int .i64 kind, .int .i64 arg, .slice (some ⟨g, 0, none⟩) n n, .slice none 0 0, .map (some M), .bool false]) (hK : KindsAt (fun b => lo <= b /\ b < W3.heap.size) W3 kv ks) (h3 : Below W3.heap.size W3 W)
  (hM : MapIs W M D) (hD : Maps.size D = 0) (hpt : ∀ b, part b ≠ 0 -> lo2 <= b /\ b < W5.heap.size /\ 7 <= part b) (hrow : RowIn (fun b => part b = 7) 136 7 xwEnc W5 (.slice (some ⟨g, 0, none⟩) n n) xs) (hxl : xs.length = n) (hn5 : n <= 5) (htl : ∀ i x, xs[i]? = some x -> XBorn part W5 n room i x (if i = 0 then [⟨⟨#[]⟩, kind, arg⟩] else [])) (h5 : Below W5.heap.size W5 W)
  (g1 : base <= lo) (g2 : W3.heap.size <= lo2) (g3 : M < lo \/ (W3.heap.size <= M /\ M < lo2) \/ W5.heap.size <= M) (g4 : base <= M) (g5 : W5.heap.size <= B) (g6 : M ≠ B) (g7 : lo <= lo2) (g8 : lo2 <= W5.heap.size) : XOK (fun b => base <= b) W B (newS n room mode ks kind arg) := by
 have k5 : Kept (fun b => W5.heap.size <= b) W5 W := Kept.of_below h5 (fun _ _ h => h)
 exact xok_new hn hbox (hK.kept (Kept.of_below h3 (X := fun b => W3.heap.size <= b) (fun _ _ h => h)) (fun b h1 h2 => by omega)) hM hD hpt (hrow.kept k5 (fun g hg h => ⟨by omega, h⟩)) hxl hn5 (fun i x hx => (htl i x hx).kept k5 (fun g hg h => ⟨by omega, rfl⟩)) g1 g2 g3 g4 g5 g6 g7 g8
theorem map_made (W : World) : ∃ D, MapIs (W.alloc (Obj.map #[] 0)) W.heap.size D /\ Maps.size D = 0 := ⟨_, mapIs_of (World.ownsMap_made W Tryz.prog 9 (plainElem Tryz.prog 3)), rfl⟩
set_option maxHeartbeats 4000000 in
set_option maxRecDepth 100000 in
theorem x_new_good (a : Option Addr) (cap : Nat) (workers room mode kind arg : Int) (ks : List KindS) (w : World) (hk : KindsAt (fun _ => True) w (.slice a ks.length cap) ks) (hc : cfgB workers room mode = true) (hu : (unfoldS ks kind arg).1 = 0) :
  Calls Tryz.prog 27 #[.agg #[.int .i64 workers, .int .i64 room, .int .i64 mode], .agg #[.slice a ks.length cap, .int .i64 kind, .int .i64 arg]] w fun e w' => ∃ B, e = .returned (.tuple #[.pointer (some ⟨B, 0, none⟩), .int .i64 0]) /\ XOK (fun b => w.heap.size <= b) w' B (newS workers room mode ks kind arg) /\ Below w.heap.size w w' := by
 have hprog : progB ks kind arg = true := by
  by_cases h : progB ks kind arg = true
  ·exact h
  ·simp [unfoldS, h] at hu
 have hlen5 : ks.length <= 5 := by simp [progB, rangeB] at hprog; omega
 have HL2 : Hid (∀ k ∈ ks, k.kids.length <= 9223372036854775806) := fun k hk => by
  simp [progB] at hprog
  have := hprog.1.1.2 k hk
  simp [kindB] at this
  have := this.1.2
  omega
 obtain ⟨V, hV⟩ : ∃ V, (w.alloc (Obj.cells #[.int .i64 workers, .int .i64 room, .int .i64 mode] 39)).alloc (Obj.cells #[.slice a ks.length cap, .int .i64 kind, .int .i64 arg] 42) = V := ⟨_, rfl⟩
 have bC : BoxAt V w.heap.size 39 #[.int .i64 workers, .int .i64 room, .int .i64 mode] := by rw [<- hV]; exact (BoxAt.new w _ _).alloc _
 have bP : BoxAt V (w.heap.size + 1) 42 #[.slice a ks.length cap, .int .i64 kind, .int .i64 arg] := by
  rw [<- hV]; have := BoxAt.new (w.alloc (Obj.cells #[.int .i64 workers, .int .i64 room, .int .i64 mode] 39)) 42 #[.slice a ks.length cap, .int .i64 kind, .int .i64 arg]
  rw [World.size_alloc] at this; exact this
 have hbV : Below w.heap.size w V := by rw [<- hV]; exact ((Below.refl _ _).alloc (Nat.le_refl _) _).alloc (by simp) _
 have sV : w.heap.size + 2 <= V.heap.size := by rw [<- hV]; simp
 have h2 : 2 <= workers := by simp [cfgB] at hc; omega
 have h5 : workers <= 5 := by simp [cfgB] at hc; omega
 obtain ⟨n, rfl⟩ : ∃ n : Nat, workers = (n : Int) := ⟨workers.toNat, by omega⟩
 have c0 := bC.cell (o := 0) rfl
 have c1 := bC.cell (o := 1) rfl
 have c2 := bC.cell (o := 2) rfl
 have HBP := hid_of bP
 have HBC := hid_of bC
 have HKV : Hid (KindsAt (fun b => b < w.heap.size) V (.slice a ks.length cap) ks) := (hk.below.kept (Kept.of_below hbV (X := fun b => w.heap.size <= b) (fun _ _ h => h)) (fun b h1 h2 => by omega)).mono' (fun _ h => h.2)
 have HBV : Hid (Below w.heap.size w V) := hbV
 have HCF := hid_of (isConfig_calls n room mode V)
 rw [hc] at HCF
 have hmm := @run_makeMap Tryz.prog
 have HU0 : Hid ((unfoldS ks kind arg).1 = 0) := hu
 clear bC bP hbV hk hc hu
 go_enter Tryz.func27, Tryz.ntmps27
 go_upto_region 3 with (go_at_call 68; refine HCF.out.mono ?_; rintro e w1 ⟨rfl, hb1⟩)
 have hP1 := HBP.out.below hb1 HBP.out.lt
 have p0 := hP1.cell (o := 0) rfl
 have p1 := hP1.cell (o := 1) rfl
 have p2 := hP1.cell (o := 2) rfl
 have HU := hid_of (unfold_calls a cap kind arg ks w1 ((HKV.out.kept (Kept.of_below hb1 (X := fun b => V.heap.size <= b) (fun _ _ h => h)) (fun b h1 h2 => by omega)).mono' (fun _ _ => trivial)) (by omega) HL2.out)
 rw [HU0.out] at HU
 have HB1 := hid_of hb1
 have s1 := hb1.size
 clear hP1 c0 c1 c2 hV
 go_upto_region 6 with (go_at_call 26; refine HU.out.mono ?_; rintro e w2 ⟨v2, rfl, -, hb2⟩)
 have s2 := hb2.size
 have hbV2 : Below V.heap.size V w2 := HB1.out.trans (hb2.mono s1)
 have HP2 := hid_of (HBP.out.below hbV2 HBP.out.lt)
 have HC2 := hid_of (HBC.out.below hbV2 HBC.out.lt)
 have HK2 : Hid (KindsAt (fun b => b < w.heap.size) w2 (.slice a ks.length cap) ks) := HKV.out.kept (Kept.of_below hbV2 (X := fun b => V.heap.size <= b) (fun _ _ h => h)) (fun b h1 h2 => by omega)
 have HBw2 : Hid (Below w.heap.size w w2) := HBV.out.trans (hbV2.mono (by omega))
 have HCP : Hid (∀ U, Below w2.heap.size w2 U -> Calls Tryz.prog 69 #[.agg #[.slice a ks.length cap, .int .i64 kind, .int .i64 arg]] U fun e w' => ∃ v, e = .returned v /\ ∃ a' c', v = .agg #[.slice a' ks.length c', .int .i64 kind, .int .i64 arg] /\ KindsAt (fun b => U.heap.size <= b /\ b < w'.heap.size) w' (.slice a' ks.length c') ks /\ Below U.heap.size U w' /\ Below w2.heap.size w2 w') := fun U hU => by
  refine (copy_calls a cap kind arg ks U ((HK2.out.kept (Kept.of_below hU (X := fun b => w2.heap.size <= b) (fun _ _ h => h)) (fun b h1 h2 => by have := HBw2.out.size; omega)).mono' (fun _ _ => trivial)) hprog).mono ?_
  rintro e w' ⟨a', c', rfl, h1, h2⟩
  exact ⟨_, rfl, a', c', rfl, h1.below, h2, hU.trans (h2.mono hU.size)⟩
 have HFI : Hid (∀ U, Below w2.heap.size w2 U -> Calls Tryz.prog 71 #[.agg #[.slice a ks.length cap, .int .i64 kind, .int .i64 arg]] U fun e w' => ∃ v, e = .returned v /\ v = .agg #[.string ⟨#[]⟩, .int .i64 kind, .int .i64 arg] /\ Below U.heap.size U w' /\ Below w2.heap.size w2 w') := fun U hU => by
  refine (first_calls a ks.length cap kind arg U).mono ?_
  rintro e w' ⟨rfl, h1⟩
  exact ⟨_, rfl, rfl, h1, hU.trans (h1.mono hU.size)⟩
 have HNW : Hid (∀ U, Below w2.heap.size w2 U -> Calls Tryz.prog 70 #[.agg #[.int .i64 n, .int .i64 room, .int .i64 mode], .agg #[.string ⟨#[]⟩, .int .i64 kind, .int .i64 arg]] U fun e w' => ∃ v, e = .returned v /\ ∃ (part : Nat -> Nat) (g : Nat) (xs : List XW), v = .slice (some ⟨g, 0, none⟩) n n /\ (∀ b, part b ≠ 0 -> U.heap.size <= b /\ b < w'.heap.size /\ 7 <= part b) /\
   RowIn (fun b => part b = 7) 136 7 xwEnc w' (.slice (some ⟨g, 0, none⟩) n n) xs /\ xs.length = n /\ (∀ i x, xs[i]? = some x -> XBorn part w' n room i x (if i = 0 then [⟨⟨#[]⟩, kind, arg⟩] else [])) /\ Below U.heap.size U w' /\ Below w2.heap.size w2 w') := fun U hU => by
  refine (newWorkers_calls n room mode ⟨⟨#[]⟩, kind, arg⟩ U (by omega) (by omega)).mono ?_
  rintro e w' ⟨part, g, xs, rfl, h1, h2, h3, h4, h5⟩
  exact ⟨_, rfl, part, g, xs, rfl, h1, h2, h3, h4, h5, hU.trans (h5.mono hU.size)⟩
 clear p0 p1 p2 hb1 hb2 hbV2
 have HST : Hid (∀ U, Below w2.heap.size w2 U -> Below w2.heap.size w2 U /\ U.cell? ⟨w.heap.size + 1, 0, none⟩ = some (.slice a ks.length cap) /\ U.cell? ⟨w.heap.size + 1, 1, none⟩ = some (.int .i64 kind) /\ U.cell? ⟨w.heap.size + 1, 2, none⟩ = some (.int .i64 arg) /\ U.cell? ⟨w.heap.size, 0, none⟩ = some (.int .i64 n) /\ U.cell? ⟨w.heap.size, 1, none⟩ = some (.int .i64 room) /\ U.cell? ⟨w.heap.size, 2, none⟩ = some (.int .i64 mode)) := fun U hU => by
  have hP := HP2.out.below hU HP2.out.lt
  have hC := HC2.out.below hU HC2.out.lt
  exact ⟨hU, hP.cell (o := 0) rfl, hP.cell (o := 1) rfl, hP.cell (o := 2) rfl, hC.cell (o := 0) rfl, hC.cell (o := 1) rfl, hC.cell (o := 2) rfl⟩
 have p0 := HP2.out.cell (o := 0) rfl
 have p1 := HP2.out.cell (o := 1) rfl
 have p2 := HP2.out.cell (o := 2) rfl
 have c0 := HC2.out.cell (o := 0) rfl
 have c1 := HC2.out.cell (o := 1) rfl
 have c2 := HC2.out.cell (o := 2) rfl
 go_region_held3 (fun U => Below w2.heap.size w2 U /\ U.cell? ⟨w.heap.size + 1, 0, none⟩ = some (.slice a ks.length cap) /\ U.cell? ⟨w.heap.size + 1, 1, none⟩ = some (.int .i64 kind) /\ U.cell? ⟨w.heap.size + 1, 2, none⟩ = some (.int .i64 arg) /\ U.cell? ⟨w.heap.size, 0, none⟩ = some (.int .i64 n) /\ U.cell? ⟨w.heap.size, 1, none⟩ = some (.int .i64 room) /\ U.cell? ⟨w.heap.size, 2, none⟩ = some (.int .i64 mode))
  (first | assumption | (exact HST.out _ (by assumption)) | (exact HST.out _ (Below.refl _ _)) | (exact HST.out _ (Below.refl _ _).drew) | (exact HST.out _ (below_alloc (by assumption) _)) | (exact HST.out _ (below_alloc (And.left (by assumption)) _)) | (exact HST.out _ (below_alloc (below_alloc (And.left (by assumption)) _) _)))
  (first
  | (go_at_call 69; refine (HCP.out _ (by first | assumption | exact Below.refl _ _ | exact (Below.refl _ _).drew | exact And.left (by assumption))).mono ?_; rintro e w3 ⟨v3, rfl, a3, c3, rfl, hK3, hU3, hb3⟩)
  | (go_at_call 71; refine (HFI.out _ (by first | assumption | exact And.left (by assumption))).mono ?_; rintro e w4 ⟨v4, rfl, rfl, hU4, hb4⟩)
  | (go_at_call 70; refine (HNW.out _ (by first | assumption | exact And.left (by assumption))).mono ?_; rintro e w5 ⟨v5, rfl, part, g5, xs, rfl, hpt5, hrow5, hxl5, htl5, hU5, hb5⟩))
 ·go_wp2_with fail
  go_ret2
  obtain ⟨D, hM, hD⟩ := map_made w5
  have e2 := HBw2.out.size
  have e3 : w2.heap.size <= w3.heap.size := hU3.size
  have e4 := hU4.size
  have e5 := hU5.size
  have hA := below_alloc (Below.refl w5.heap.size w5) (Obj.map #[] 0)
  refine ⟨_, rfl, xfin (M := w5.heap.size) (lo := w2.heap.size) (by omega) (boxAt_at _ _ _ _ (by simp)) hK3 ?_ (hM.below ((Below.refl _ _).alloc (Nat.le_refl _) _) (by simp)) hD hpt5 hrow5 hxl5 (by omega) htl5 (below_alloc hA _) (by omega) e4 (.inr (.inr (Nat.le_refl _))) (by omega) (by omega) (by omega) (by omega) e5, ?_⟩
  ·exact ((hU4.trans (hU5.mono e4)).alloc (by omega) _).alloc (by simp; omega) _
  ·exact HBw2.out.trans (((hb5.alloc hb5.size _).alloc (by simp; omega) _).mono HBw2.out.size)
 ·go_wp2_with fail
  go_ret2
  obtain ⟨D, hM, hD⟩ := map_made w4
  have e2 := HBw2.out.size
  have e3 : w2.heap.size <= w3.heap.size := hU3.size
  have e4 := hU4.size
  have e5 : w4.heap.size + 1 <= w5.heap.size := by have := hU5.size; simpa using this
  have hA : Below w4.heap.size w4 w5 := (below_alloc (Below.refl w4.heap.size w4) (Obj.map #[] 0)).trans (hU5.mono (by simp))
  have hM5 : MapIs w5 w4.heap.size D := hM.below hU5 (by simp)
  refine ⟨_, rfl, xfin (M := w4.heap.size) (lo := w2.heap.size) (lo2 := w4.heap.size + 1) (by omega) (boxAt_at _ _ _ _ rfl) hK3 ?_ (hM5.below ((Below.refl _ _).alloc (Nat.le_refl _) _) hM5.lt) hD (fun b hb => by have := hpt5 b hb; simpa using this) hrow5 hxl5 (by omega) htl5 (below_alloc (Below.refl _ _) _) (by omega) (by omega) (.inr (.inl ⟨by omega, by omega⟩)) (by omega) (Nat.le_refl _) (by omega) (by omega) e5, ?_⟩
  ·exact (hU4.trans (hA.mono e4)).alloc (by omega) _
  ·exact HBw2.out.trans ((hb5.alloc hb5.size _).mono HBw2.out.size)
 ·go_wp2_with fail
  go_ret2
  obtain ⟨D, hM, hD⟩ := map_made w3
  have e2 := HBw2.out.size
  have e3 : w2.heap.size <= w3.heap.size := hU3.size
  have e4 : w3.heap.size + 1 <= w4.heap.size := by have := hU4.size; simpa using this
  have e5 := hU5.size
  have hA : Below w3.heap.size w3 w4 := (below_alloc (Below.refl w3.heap.size w3) (Obj.map #[] 0)).trans (hU4.mono (by simp))
  have hM4 : MapIs w4 w3.heap.size D := hM.below hU4 (by simp)
  have hM5 : MapIs w5 w3.heap.size D := hM4.below hU5 hM4.lt
  refine ⟨_, rfl, xfin (M := w3.heap.size) (lo := w2.heap.size) (lo2 := w4.heap.size) (by omega) (boxAt_at _ _ _ _ rfl) hK3 ?_ (hM5.below ((Below.refl _ _).alloc (Nat.le_refl _) _) hM5.lt) hD hpt5 hrow5 hxl5 (by omega) htl5 (below_alloc (Below.refl _ _) _) (by omega) (by omega) (.inr (.inl ⟨by omega, by omega⟩)) (by omega) (Nat.le_refl _) (by omega) (by omega) e5, ?_⟩
  ·exact (hA.trans (hU5.mono (by omega))).alloc (by omega) _
  ·exact HBw2.out.trans ((hb5.alloc hb5.size _).mono HBw2.out.size)
 ·go_wp2_with fail
  go_ret2
  obtain ⟨D, hM, hD⟩ := map_made w2
  have e2 := HBw2.out.size
  have e3 : w2.heap.size + 1 <= w3.heap.size := by have := hU3.size; have h9 : (w2.alloc (Obj.map #[] 0)).heap.size <= w3.heap.size := this; simpa using h9
  have e4 := hU4.size
  have e5 := hU5.size
  have hM3 : MapIs w3 w2.heap.size D := by
   have hMd : MapIs (w2.alloc (Obj.map #[] 0)).drew w2.heap.size D := hM
   exact hMd.below hU3 hMd.lt
  have hM4 : MapIs w4 w2.heap.size D := hM3.below hU4 hM3.lt
  have hM5 : MapIs w5 w2.heap.size D := hM4.below hU5 hM4.lt
  have hK3' : KindsAt (fun b => w2.heap.size + 1 <= b /\ b < w3.heap.size) w3 (.slice a3 ks.length c3) ks := hK3.mono' (fun b hb => ⟨by have h9 : (w2.alloc (Obj.map #[] 0)).heap.size <= b := hb.1; simpa using h9, hb.2⟩)
  refine ⟨_, rfl, xfin (M := w2.heap.size) (lo := w2.heap.size + 1) (lo2 := w4.heap.size) (by omega) (boxAt_at _ _ _ _ rfl) hK3' ?_ (hM5.below ((Below.refl _ _).alloc (Nat.le_refl _) _) hM5.lt) hD hpt5 hrow5 hxl5 (by omega) htl5 (below_alloc (Below.refl _ _) _) (by omega) (by omega) (.inl (by omega)) (by omega) (Nat.le_refl _) (by omega) (by omega) e5, ?_⟩
  ·exact (hU4.trans (hU5.mono (by omega))).alloc (by omega) _
  ·exact HBw2.out.trans ((hb5.alloc hb5.size _).mono HBw2.out.size)
end Go.Proofs.YteahdfeialekbaaGreatDoor
namespace Go.Proofs.YteahdfeialekbaaGreatDoor
open Go Go.RowKit Go.Shelf
def SeqY {α : Type} (F : Fence) (n : Nat) (P : Program) (g : Nat) (lb : Array Value) (encs : α -> Array Value) (X : Nat -> Prop) (L : List α) (W : World) : Prop :=
 ∀ (l : Nat) (J : List α -> World -> Prop), (∀ s A B, J s A -> Below A.heap.size A B -> J s B) ->
  (∀ pre x W1, J pre W1 -> W.heap.size <= W1.heap.size -> pre ++ [x] <+: L -> YieldAt F (n - 1) P l (encs x) W1 fun e W' => e = .returned (.bool true) /\ J (pre ++ [x]) W' /\ Kept X W1 W') ->
  J [] W ->
  CallsIn F n P g (#[.func (.yield l) #[] #[]] ++ lb) W fun e W' => (∃ v, e = .returned v) /\ J L W'
def roundOn {α : Type} (X : Nat -> Prop) (I : List α -> World -> Prop) (xs : List α) (W : World) : Exit -> Act -> World -> Prop
 | .normal, _, W' => Kept X W W' /\ I xs W'
 | _, _, _ => False
section
variable {F : Fence} {n : Nat} {P : Program}
theorem range_lawY {α : Type} {g : Operand} {ps : Array Tmp} {assign body : Code} {Q : Exit -> Act -> World -> Prop} {a : Act} {w : World}
  (hro : F.round = none) (h1 : F.depth.isSome = true -> 1 <= n) {gf : Nat} {lb : Array Value} (hg : a.eval g = .func (.func gf) #[] lb) (hFg : F.fn gf) (eg : ∀ args w, (callFunc gf args).run P w = .ok (.enter gf args) w)
  {encs : α -> Array Value} {L : List α} (X : Nat -> Prop) (hX : ∀ k, X k -> k ≠ w.heap.size /\ k ≠ w.heap.size + 1)
  (hseq : ∀ W, Below w.heap.size w W -> W.heap.size = w.heap.size + 2 -> SeqY F (n - 1) P gf lb encs (fun k => X k \/ k = w.heap.size + 1) L W)
  (hps : ∀ x, (encs x).size = ps.size)
  (I : List α -> World -> Prop) (hI : ∀ s A B, I s A -> Kept (· = w.heap.size + 1) A B -> I s B) (h0 : I [] w)
  (Ax : List α -> α -> Act -> World -> Prop) (hAx : ∀ pre x a' A B, Ax pre x a' A -> Kept (· = w.heap.size + 1) A B -> Ax pre x a' B)
  (hassign : ∀ (l : Nat) (pre : List α) (x : α) (W : World) (K : Act -> World -> Prop), pre ++ [x] <+: L -> I pre W -> w.heap.size + 2 <= W.heap.size -> (∀ a' W', Kept X W W' -> I pre W' -> Ax pre x a' W' -> K a' W') ->
   assign.wpIn (F.inRound l) (n - 1 - 1) P (Exit.then K (fun _ _ _ => False)) { tmps := (ps.zip (encs x)).foldl (fun t (p, v) => t.setIfInBounds p v) a.tmps, defers := [] } W)
  (hbody : ∀ (l : Nat) (pre : List α) (x : α) (a' : Act) (W : World), pre ++ [x] <+: L -> I pre W -> Ax pre x a' W -> w.heap.size + 2 <= W.heap.size -> body.wpIn (F.inRound l) (n - 1 - 1) P (roundOn X I (pre ++ [x]) W) a' W)
  (hdone : ∀ (D : Nat) (W : World), w.heap.size <= D -> I L W -> W.heap[D]? = some (.deferred (some [])) -> Q .normal { a with defers := { target := .collected D, args := #[] } :: a.defers } W) :
  (Code.rangeFunc g ps assign body).wpIn F n P Q a w := by
 refine wpIn_rangeFunc fun fn hfn => ?_
 rw [hro]
 obtain ⟨rec, hrec⟩ : ∃ rec : LoopState -> Option Code -> Loop, rec = fun st pe => { state := st, pending := pe, fn, tmps := a.tmps, params := ps, assign, body, defers := w.heap.size } := ⟨_, rfl⟩
 obtain ⟨V, hV⟩ : ∃ V, (w.alloc (.deferred (some []))).alloc (.loop (rec .ready none)) = V := ⟨_, rfl⟩
 have vsize : V.heap.size = w.heap.size + 2 := by rw [<- hV]; simp
 have vbelow : Below w.heap.size w V := by
  rw [<- hV]; exact ((Below.refl _ w).alloc (Nat.le_refl _) _).alloc (by simp) _
 have vloop : V.heap[w.heap.size + 1]? = some (.loop (rec .ready none)) := by
  have h := World.alloc_heap_new (w.alloc (.deferred (some []))) (.loop (rec .ready none))
  rw [World.size_alloc] at h; rw [<- hV]; exact h
 have vdef : V.heap[w.heap.size]? = some (.deferred (some [])) := by
  rw [<- hV]; exact (Below.heap_alloc _ _ _ (by simp)).trans (World.alloc_heap_new w _)
 refine ⟨w.heap.size + 1, [{ target := .collected w.heap.size, args := #[] }], V, { target := .fn (.func gf) lb, args := #[.func (.yield (w.heap.size + 1)) #[] #[]] }, V, gf,
  #[.func (.yield (w.heap.size + 1)) #[] #[]] ++ lb, V, ?_, ?_, ?_, ?_, h1, ?_⟩
 ·rw [<- hV, hrec]; exact run_enterLoop_outer _ _ _ _ _
 ·simp only [resolve, hg]; simp [go_sem]
 ·intro f' hf'; simp [Target.leads] at hf'; subst hf'; exact hFg
 ·simp [invoke, go_sem, eg]
 have vkept : Kept (· = w.heap.size + 1) w V := Kept.of_below vbelow (fun k h1 h2 => by omega)
 refine (hseq V vbelow vsize (w.heap.size + 1)
   (fun pre W => I pre W /\ W.heap[w.heap.size + 1]? = some (.loop (rec .ready none)) /\ W.heap[w.heap.size]? = some (.deferred (some [])))
   (fun s A B hs hb => ⟨hI s A B hs.1 (Kept.of_below hb (fun k h1 h2 => by omega)), (hb.block _ (Array.getElem?_eq_some_iff.1 hs.2.1).1).trans hs.2.1, (hb.block _ (Array.getElem?_eq_some_iff.1 hs.2.2).1).trans hs.2.2⟩)
   ?_ ⟨hI _ _ _ h0 vkept, vloop, vdef⟩).mono ?_
 ·rintro pre x W ⟨hi, hl, hk⟩ hsz hxL
  rw [vsize] at hsz
  have hy := run_yield (P := P) (args := encs x) hl (by rw [hrec]; exact hps x)
  rw [hrec] at hy
  refine ⟨fn, _, assign, body, hy, roundIn_of_wpIn hfn (hassign _ pre x W _ hxL hi hsz fun a' U kU iU aU => ?_)⟩
  clear hy
  have n1 : ¬ X (w.heap.size + 1) := fun h => (hX _ h).2 rfl
  have n0 : ¬ X w.heap.size := fun h => (hX _ h).1 rfl
  have ul := kU.heap hl n1
  have uk := kU.heap hk n0
  have usz : w.heap.size + 2 <= U.heap.size := Nat.le_trans hsz kU.size
  refine ⟨_, run_beginRound ul (by rw [hrec]), ?_⟩
  obtain ⟨T, hT⟩ : ∃ T, U.putObj (w.heap.size + 1) (.loop { rec .ready none with state := .busy }) = T := ⟨_, rfl⟩
  rw [hT]
  have kT : Kept (· = w.heap.size + 1) U T := by rw [<- hT]; exact Kept.putObj _ _ _ rfl
  have tl : T.heap[w.heap.size + 1]? = some (.loop { rec .ready none with state := .busy }) := by rw [<- hT]; exact World.putObj_heap_same (by omega)
  have tk : T.heap[w.heap.size]? = some (.deferred (some [])) := kT.heap uk (by omega)
  refine wpIn_mono (hbody _ pre x a' T hxL (hI _ _ _ iU kT) (hAx _ _ _ _ _ aU kT) (Nat.le_trans usz kT.size)) ?_
  rintro e a3 Z hp
  cases e with
  | normal =>
   obtain ⟨kZ, hi3⟩ := hp
   have zl := kZ.heap tl n1
   have zk := kZ.heap tk n0
   have zr := run_endRound (P := P) none zl
   rw [hrec] at zr zl
   refine ⟨_, _, zr, rfl, ⟨hI _ _ _ hi3 (Kept.putObj _ _ _ rfl), ?_, (World.putObj_heap_other (by omega)).trans zk⟩, ?_⟩
   ·rw [hrec]; exact World.putObj_heap_same (Array.getElem?_eq_some_iff.1 zl).1
   ·exact (((kU.mono (fun k _ h => .inl h)).trans (kT.mono (fun k _ h => .inr h))).trans (kZ.mono (fun k _ h => .inl h))).trans (Kept.putObj _ _ _ (.inr rfl))
  | ret => exact hp.elim
  | exit id => exact hp.elim
  | goto t => exact hp.elim
  | panic ch => exact hp.elim
  | outgrown => exact hp.elim
 ·rintro e Z ⟨⟨v, rfl⟩, hi, hl, hk⟩
  have hlt := (Array.getElem?_eq_some_iff.1 hl).1
  exact ⟨none, _, by have := run_endLoop (P := P) hl (by rw [hrec]; simp); rw [hrec] at this; exact this, hdone _ _ (Nat.le_refl _) (hI _ _ _ hi (Kept.putObj _ _ _ rfl)) ((World.putObj_heap_other (by omega)).trans hk)⟩
end
attribute [local go_sem] Oper.semAt_some
set_option maxHeartbeats 1000000 in
set_option maxRecDepth 100000 in
theorem children1_seqY (n : Nat) (Bp Bt : Nat) (X ok : Nat -> Prop) (a : Option Addr) (cap : Nat) (kind arg : Int) (ks : List KindS) (t : TaskS) (L : List TaskS) (hL : children ks t = L) (W : World)
  (hp : BoxAt W Bp 42 #[.slice a ks.length cap, .int .i64 kind, .int .i64 arg]) (ht : BoxAt W Bt 76 #[.string t.id, .int .i64 t.kind, .int .i64 t.arg])
  (hk : KindsAt ok W (.slice a ks.length cap) ks) (hX : ∀ b, ok b -> ¬ X b) (hXt : ¬ X Bt)
  (hprog : progB ks kind arg = true) (h0 : 0 <= t.kind) (h1 : t.kind < ks.length) (h2 : 0 <= t.arg) (h3 : t.arg <= 12) (h4 : t.id.size <= 12) :
  SeqY Fence.wide n Tryz.prog 156 #[.pointer (some ⟨Bp, 0, none⟩), .pointer (some ⟨Bt, 0, none⟩)] (fun c : TaskS => #[taskV c]) X L W := by
 intro l J hJ hY hJ0
 obtain ⟨id, k, x⟩ := t
 obtain ⟨a', cap', hs, hc⟩ := hk
 simp only [Value.slice.injEq] at hs
 obtain ⟨rfl, -, rfl⟩ := hs
 simp only at h0 h1 h2 h3 h4 ht
 obtain ⟨j, rfl⟩ := Int.eq_ofNat_of_zero_le h0
 have hj : j < ks.length := by omega
 obtain ⟨c, hcc⟩ : ∃ c, ks[j]? = some c := ⟨_, List.getElem?_eq_getElem hj⟩
 obtain ⟨b, o, v, rfl, hok, hbw, c0, c1, c2, hkk⟩ := hc j c hcc
 obtain ⟨a', cap', rfl, h'⟩ := hkk
 have hkb : kindB ks.length c = true := by
  simp [progB] at hprog
  exact hprog.1.1.2 c (List.mem_of_getElem? hcc)
 have hlen : ks.length <= 5 := by simp [progB, rangeB] at hprog; omega
 have hkl : c.kids.length <= 3 := by simp [kindB] at hkb; exact hkb.1.2
 have hkids : ∀ d ∈ c.kids, 1 <= d.less /\ d.less <= 9 /\ 0 <= d.kind /\ d.kind < ks.length := by
  intro d hd; simp [kindB, kidB, numB, rangeB] at hkb; have := hkb.2 d hd; omega
 have HC : Hid (L = childrenFrom id x 0 c.kids) := by rw [<- hL]; simp [Hid, children, kindAt, hcc]
 have p0 := hp.cell (o := 0) rfl
 have t0 := ht.cell (o := 0) rfl
 have t1 := ht.cell (o := 1) rfl
 have t2 := ht.cell (o := 2) rfl
 clear hprog hkb hc hL
 refine callsIn_of_wp Tryz.func156 rfl trivial ?_ rfl
 simp only [Tryz.ntmps156, List.size_toArray, List.length_cons, List.length_nil, Nat.reduceAdd, Nat.reduceSub, Array.replicate_succ, Array.replicate_zero, List.push_toArray, List.append_toArray, List.nil_append, List.cons_append]
 gi_wp2
 gi_loopw [15] (fun i wr => ∃ (m : Nat) (pre : List TaskS), m <= c.kids.length /\ i = .int .i64 m /\ L = pre ++ childrenFrom id x m (c.kids.drop m) /\ J pre wr /\ Kept (fun k => X k \/ W.heap.size <= k) W wr)
  (fun i _ => c.kids.length - (intOf i).toNat)
 case atStart => exact ⟨0, [], Nat.zero_le _, rfl, HC.out, hJ0, Kept.refl _ _⟩
 case round =>
  obtain ⟨m, pre, hm, rfl, hpre, hJs, hkw⟩ := hrel
  have HP : Hid (L = pre ++ childrenFrom id x m (c.kids.drop m)) := hpre
  clear hpre
  have nt : ¬ (X Bt \/ W.heap.size <= Bt) := fun h => h.elim hXt (fun h => Nat.not_lt_of_le h ht.lt)
  have u0 := (ht.kept hkw nt).cell (o := 0) rfl
  have u1 := (ht.kept hkw nt).cell (o := 1) rfl
  have u2 := (ht.kept hkw nt).cell (o := 2) rfl
  have hbt := (ht.kept hkw nt).lt
  by_cases hlt : m < c.kids.length
  ·obtain ⟨d, hd⟩ : ∃ d, c.kids[m]? = some d := ⟨_, List.getElem?_eq_getElem hlt⟩
   obtain ⟨b', o', rfl, hok', hbw', d0, d1⟩ := h' m d hd
   have nb : ¬ (X b' \/ W.heap.size <= b') := fun h => h.elim (hX b' hok') (fun h => Nat.not_lt_of_le h hbw')
   have f0 := (hkw.cell (p := ⟨b', o' + m * 2, none⟩) hbw' nb).trans d0
   have f1 := (hkw.cell (p := ⟨b', o' + m * 2 + 1, none⟩) hbw' nb).trans d1
   obtain ⟨hl1, hl9, hk0, hk1⟩ := hkids d (List.mem_of_getElem? hd)
   have v0 := fun o => cell_alloc o u0
   have v2 := fun o => cell_alloc o u2
   have HG : Hid (childrenFrom id x m (c.kids.drop m) = if d.less <= x then ⟨kidId id m, d.kind, x - d.less⟩ :: childrenFrom id x (m + 1) (c.kids.drop (m + 1)) else childrenFrom id x (m + 1) (c.kids.drop (m + 1))) := childrenFrom_get id x c.kids m d hd
   by_cases hless : d.less <= x
   ·gi_wp2
    refine wpIn_wide.2 ?_
    have g0 := (BoxAt.new wr 108 #[Value.int IntKind.i64 d.kind, Value.int IntKind.i64 d.less]).cell (o := 0) rfl
    have g1 := (BoxAt.new wr 108 #[Value.int IntKind.i64 d.kind, Value.int IntKind.i64 d.less]).cell (o := 1) rfl
    have z1 : ¬ 9223372036854775807 < id.size + 1 := by omega
    have z2 : id.size < 9223372036854775807 := by omega
    have z3 : IntKind.i64.wrap (x - d.less) = x - d.less := IntWalk.i64_in _ (by omega)
    go_region_held3 (fun w' => w'.cell? ⟨Bt, 0, none⟩ = some (.string id) /\ w'.cell? ⟨Bt, 2, none⟩ = some (.int .i64 x) /\ w'.cell? ⟨wr.heap.size, 0, none⟩ = some (.int .i64 d.kind) /\ w'.cell? ⟨wr.heap.size, 1, none⟩ = some (.int .i64 d.less)) (go_keep)
     (first | (go_at_call 157; refine (itoa_calls m (by omega) _).mono ?_; rintro e w' ⟨rfl, rfl⟩))
    all_goals
     obtain ⟨V, hV⟩ : ∃ V, ((wr.alloc (Obj.cells #[Value.int IntKind.i64 d.kind, Value.int IntKind.i64 d.less] 108)).alloc (Obj.cells #[Value.string (id ++ { data := #[digit m] }), Value.int IntKind.i64 d.kind, Value.int IntKind.i64 (x - d.less)] 76)).drew = V := ⟨_, rfl⟩
     have hbV : Below wr.heap.size wr V := by
      rw [<- hV]; exact (((Below.refl _ wr).alloc (Nat.le_refl _) _).alloc (by simp) _).drew
     have bx : BoxAt V (wr.heap.size + 1) 76 #[Value.string (id ++ { data := #[digit m] }), Value.int IntKind.i64 d.kind, Value.int IntKind.i64 (x - d.less)] := by
      rw [<- hV]; have := BoxAt.new (wr.alloc (Obj.cells #[Value.int IntKind.i64 d.kind, Value.int IntKind.i64 d.less] 108)) 76 #[Value.string (id ++ { data := #[digit m] }), Value.int IntKind.i64 d.kind, Value.int IntKind.i64 (x - d.less)]
      rw [World.size_alloc] at this; exact this
     have y0 := bx.cell (o := 0) rfl
     have y1 := bx.cell (o := 1) rfl
     have y2 := bx.cell (o := 2) rfl
     rw [hV]
     clear hV
     obtain ⟨q, hq⟩ : ∃ q : TaskS, q = ⟨kidId id m, d.kind, x - d.less⟩ := ⟨_, rfl⟩
     have hP2 : Hid (L = (pre ++ [q]) ++ childrenFrom id x (m + 1) (c.kids.drop (m + 1))) := by
      refine HP.out.trans ?_
      rw [HG.out, if_pos hless]; simp [hq]
     obtain ⟨fn, tmps, assign, body, hy, hR⟩ := hY pre q V (hJ _ _ _ hJs hbV) (Nat.le_trans hkw.size hbV.size) ⟨_, hP2.out.symm⟩
     rw [hq] at hy
     clear hq
     dsimp only [taskV, kidId] at hy
     gi_wp2
     refine ⟨fun h => (by cases h), ?_⟩
     refine hR.mono ?_
     rintro e W3 ⟨rfl, hJ3, hk3⟩
     ·gi_wp2
      go_roundw
      case rel => exact ⟨m + 1, _, by omega, by go_num, hP2.out, hJ3, (hkw.trans (Kept.of_below hbV (fun k _ h => .inr (Nat.le_trans hkw.size h)))).trans (hk3.mono (fun k _ h => .inl h))⟩
      case measure => simp [intOf]; omega
   ·have hP2 : Hid (L = pre ++ childrenFrom id x (m + 1) (c.kids.drop (m + 1))) := by
     refine HP.out.trans ?_
     rw [HG.out, if_neg hless]
    gi_wp2
    go_roundw
    case rel => exact ⟨m + 1, pre, by omega, by go_num, hP2.out, hJ _ _ _ hJs ((Below.refl _ wr).alloc (Nat.le_refl _) _), hkw.trans (Kept.alloc _ _ _)⟩
    case measure => simp [intOf]; omega
  ·have hP2 : Hid (L = pre) := by
    refine HP.out.trans ?_
    rw [List.drop_eq_nil_of_le (by omega)]; simp [childrenFrom]
   gi_wp2
   go_end0
   exact ⟨⟨_, rfl⟩, by rw [hP2.out]; exact hJs⟩
set_option maxHeartbeats 1000000 in
set_option maxRecDepth 100000 in
theorem values1_seqY (n : Nat) (Bs : Nat) (X : Nat -> Prop) (v : Value) (l0 : List TaskS) (W : World) (hs : BoxAt W Bs 52 #[v]) (hv : ListAt 3 taskEnc W v l0) (hXv : ∀ g o m c, v = .slice (some ⟨g, o, none⟩) m c -> 0 < m -> ¬ X g) (hl : l0.length <= 1000000) :
  SeqY Fence.wide n Tryz.prog 155 #[.pointer (some ⟨Bs, 0, none⟩)] (fun c : TaskS => #[taskV c]) X l0 W := by
 intro l J hJ hY hJ0
 obtain ⟨a, cap, rfl, hc⟩ := hv
 have s0 := hs.cell (o := 0) rfl
 have HC := hid_of hc
 have HXV := hid_of hXv
 clear hc hXv
 refine callsIn_of_wp Tryz.func155 rfl trivial ?_ rfl
 simp only [Tryz.ntmps155, List.size_toArray, List.length_cons, List.length_nil, Nat.reduceAdd, Nat.reduceSub, Array.replicate_succ, Array.replicate_zero, List.push_toArray, List.append_toArray, List.nil_append, List.cons_append]
 gi_wp2
 gi_loopw [7] (fun i wr => ∃ m : Nat, m <= l0.length /\ i = .int .i64 m /\ J (l0.take m) wr /\ Kept (fun k => X k \/ W.heap.size <= k) W wr) (fun i _ => l0.length - (intOf i).toNat)
 case atStart => exact ⟨0, Nat.zero_le _, rfl, by simpa using hJ0, Kept.refl _ _⟩
 case round =>
  obtain ⟨m, hm, rfl, hJs, hkw⟩ := hrel
  rename World => wr
  have HJS := hid_of hJs
  have HKW := hid_of hkw
  have szr := hkw.size
  clear hJs hkw
  by_cases hlt : m < l0.length
  ·obtain ⟨c, hcc⟩ : ∃ c, l0[m]? = some c := ⟨_, List.getElem?_eq_getElem hlt⟩
   obtain ⟨g, o, rfl, hgl, hce⟩ := HC.out m c hcc
   have nX : ¬ (X g \/ W.heap.size <= g) := fun h => h.elim (HXV.out g o _ _ rfl (by omega)) (fun h => by omega)
   have e0 : wr.cell? ⟨g, o + m * 3, none⟩ = some (.string c.id) := (HKW.out.cell (p := ⟨g, o + m * 3, none⟩) hgl nX).trans (hce 0 _ rfl)
   have e1 : wr.cell? ⟨g, o + m * 3 + 1, none⟩ = some (.int .i64 c.kind) := (HKW.out.cell (p := ⟨g, o + m * 3 + 1, none⟩) hgl nX).trans (hce 1 _ rfl)
   have e2 : wr.cell? ⟨g, o + m * 3 + 2, none⟩ = some (.int .i64 c.arg) := (HKW.out.cell (p := ⟨g, o + m * 3 + 2, none⟩) hgl nX).trans (hce 2 _ rfl)
   have j1 : (0 : Int) <= (m : Int) := by omega
   have j2 : (m : Int) < (l0.length : Int) := by omega
   have HT : Hid (l0.take (m + 1) = l0.take m ++ [c]) := by show _ = _; rw [List.take_add_one, hcc]; rfl
   clear hce nX hcc
   obtain ⟨V, hV⟩ : ∃ V, wr.alloc (Obj.cells #[.string c.id, .int .i64 c.kind, .int .i64 c.arg] 76) = V := ⟨_, rfl⟩
   have hbV : Below wr.heap.size wr V := by rw [<- hV]; exact (Below.refl _ _).alloc (Nat.le_refl _) _
   have bx : BoxAt V wr.heap.size 76 #[.string c.id, .int .i64 c.kind, .int .i64 c.arg] := by rw [<- hV]; exact BoxAt.new wr _ _
   have y0 := bx.cell (o := 0) rfl
   have y1 := bx.cell (o := 1) rfl
   have y2 := bx.cell (o := 2) rfl
   obtain ⟨fn, tmps, assign, body, hy, hR⟩ := hY (l0.take m) c V (hJ _ _ _ HJS.out hbV) (Nat.le_trans szr hbV.size) (by rw [<- HT.out]; exact List.take_prefix _ _)
   dsimp only [taskV] at hy
   gi_wp2
   refine ⟨fun h => (by cases h), ?_⟩
   refine hR.mono ?_
   rintro e W3 ⟨rfl, hJ3, hk3⟩
   gi_wp2
   go_roundw
   case rel => exact ⟨m + 1, by omega, by go_num, by rw [HT.out]; exact hJ3, (HKW.out.trans (Kept.of_below hbV (fun k _ h => .inr (Nat.le_trans szr h)))).trans (hk3.mono (fun k _ h => .inl h))⟩
   case measure => simp [intOf]; omega
  ·obtain rfl : l0.length = m := by omega
   gi_wp2
   go_end0
   exact ⟨⟨_, rfl⟩, by have := HJS.out; rwa [List.take_length] at this⟩
end Go.Proofs.YteahdfeialekbaaGreatDoor
namespace Go.Proofs.YteahdfeialekbaaGreatDoor
open Go Go.RowKit
section
variable {part part' : Nat -> Nat} {W W' : World} {B M : Nat} {s : RunS} {kv wv yv : Value} {xs : List XW}
theorem Moved.okX {F : Nat -> Prop} (h : Moved part part' W W') (hr : XAtO part' W' B s kv wv yv M xs) (hF : ∀ b, part b ≠ 0 -> F b) : XOK (fun b => F b \/ W.heap.size <= b) W' B s /\ Kept F W W' := by
 refine ⟨⟨part', fun b hb => ?_, kv, wv, yv, M, xs, hr⟩, h.kept.mono (fun b _ hb => hF b hb)⟩
 rcases Nat.lt_or_ge b W.heap.size with hl | hl
 ·exact .inl (hF b (h.old b hl hb))
 ·exact .inr hl
structure XMoved (part part' : Nat -> Nat) (W W' : World) : Prop where
 kept : Kept (fun b => part b ≠ 0) W W'
 old : ∀ b, b < W.heap.size -> part' b ≠ 0 -> part b ≠ 0
 ends : ∀ b, b < W.heap.size -> 200 <= part b -> part' b = part b /\ W'.heap[b]? = W.heap[b]?
theorem XMoved.base (h : XMoved part part' W W') : Moved part part' W W' := ⟨h.kept, h.old⟩
theorem XMoved.refl (part : Nat -> Nat) (W : World) : XMoved part part W W := ⟨Kept.refl _ _, fun _ _ h => h, fun _ _ _ => ⟨rfl, rfl⟩⟩
theorem XMoved.trans {p p' p'' : Nat -> Nat} {W W' W'' : World} (h : XMoved p p' W W') (k : XMoved p' p'' W' W'') : XMoved p p'' W W'' :=
 ⟨h.kept.andThen k.kept (fun b hb hp => h.old b hb hp), fun b hb hp => h.old b hb (k.old b (Nat.lt_of_lt_of_le hb h.kept.size) hp), fun b hb hp => by
  obtain ⟨h1, h2⟩ := h.ends b hb hp
  obtain ⟨k1, k2⟩ := k.ends b (Nat.lt_of_lt_of_le hb h.kept.size) (by omega)
  exact ⟨k1.trans h1, k2.trans h2⟩⟩
theorem XMoved.of {Y : Nat -> Prop} (n : Nat) (k : Kept Y W W') (hY : ∀ g, g < W.heap.size -> Y g -> part g ≠ 0 /\ part g < 200) : XMoved part (ext W part n) W W' :=
 ⟨k.mono (fun g hg h => (hY g hg h).1), fun b hb h => by rwa [ext_old hb] at h, fun b hb hp => ⟨ext_old hb, k.block b hb (fun h => by have := (hY b hb h).2; omega)⟩⟩
theorem XMoved.okX {F : Nat -> Prop} (h : XMoved part part' W W') (hr : XAtO part' W' B s kv wv yv M xs) (hF : ∀ b, part b ≠ 0 -> F b) : XOK (fun b => F b \/ W.heap.size <= b) W' B s /\ Kept F W W' := h.base.okX hr hF
theorem XAtO.later (h : XAtO part W B s kv wv yv M xs) (hb : Below W.heap.size W W') : XAtO (ext W part 0) W' B s kv wv yv M xs /\ XMoved part (ext W part 0) W W' := by
 have k : Kept (fun b => W.heap.size <= b) W W' := Kept.of_below hb (fun _ _ h => h)
 exact ⟨h.kept k (fun g hg _ => ⟨by omega, ext_old hg⟩), XMoved.of 0 k (fun g hl hg => by omega)⟩
theorem XAtO.aside {Y : Nat -> Prop} (h : XAtO part W B s kv wv yv M xs) (k : Kept Y W W') (hY : ∀ g, g < W.heap.size -> Y g -> part g = 0) : XAtO (ext W part 0) W' B s kv wv yv M xs :=
 h.kept k (fun g hg hp => ⟨fun hy => hp (hY g hg hy), ext_old hg⟩)
theorem XAtO.over (h : XAtO part W B s kv wv yv M xs) (k : Kept (· = B) W W') (hb : BoxAt W' B 127 (xrunCells { s with over := true } kv wv yv M)) : XAtO (ext W part 0) W' B { s with over := true } kv wv yv M xs /\ XMoved part (ext W part 0) W W' := by
 have hY : ∀ g, g < W.heap.size -> g = B -> part g = 1 := fun g _ e => by rw [e]; exact h.pB
 have R := h.rest (part' := ext W part 0) 5 k (fun g hg => ext_old hg) (fun g hl hg => .inl (hY g hl hg))
 exact ⟨⟨hb, (ext_old h.box.lt).trans h.pB, R.kinds (by omega), R.wrow (by omega), h.wlen, fun i x y => R.wat i x y (by omega), h.llen, h.lrow, h.five, fun i x ls => R.lat i x ls (by omega) (.inl (by omega)), fun i x => R.iat i x (by omega) (.inl (by omega)), R.yrow (by omega), R.vals (by omega)⟩, XMoved.of 0 k (fun g hl hg => by have := hY g hl hg; omega)⟩
theorem XAtO.reway {yv' : Value} {way' : List MsgS} (h : XAtO part W B s kv wv yv M xs) (k : Kept (fun g => g = B \/ part g = 2) W W') (hb : BoxAt W' B 127 (xrunCells { s with way := way' } kv wv yv' M))
  (hr : W'.ownsRow 0 140 15 yv' way'.length (way'.flatMap msgEnc)) (ho : ∀ g, yv'.ownBlock = some g -> part g = 2 /\ g < W.heap.size \/ W.heap.size <= g) :
  XAtO (ext W part 2) W' B { s with way := way' } kv wv yv' M xs /\ XMoved part (ext W part 2) W W' := by
 have hpB := h.pB
 have hY : ∀ g, g < W.heap.size -> (g = B \/ part g = 2) -> part g = 1 \/ part g = 2 := fun g _ e => by rcases e with rfl | e <;> omega
 have R := h.rest (part' := ext W part 2) 2 k (fun g hg => ext_old hg) hY
 exact ⟨⟨hb, (ext_old h.box.lt).trans h.pB, R.kinds (by omega), R.wrow (by omega), h.wlen, fun i x y => R.wat i x y (by omega), h.llen, h.lrow, h.five, fun i x ls => R.lat i x ls (by omega) (.inl (by omega)), fun i x => R.iat i x (by omega) (.inl (by omega)), rowIn_ext hr ho, R.vals (by omega)⟩, XMoved.of 2 k (fun g hl hg => by have := hY g hl hg; omega)⟩
theorem XAtO.revals {vs : List (ByteArray × Int)} (h : XAtO part W B s kv wv yv M xs) (k : Kept (· = M) W W') (hv : KeptAt part W' M vs) : XAtO (ext W part 0) W' B { s with values := vs } kv wv yv M xs /\ XMoved part (ext W part 0) W W' := by
 have h3 := h.vals.is
 have hpB := h.pB
 have hY : ∀ g, g < W.heap.size -> g = M -> part g = 3 := fun g _ e => by rw [e]; exact h3
 have R := h.rest (part' := ext W part 0) 3 k (fun g hg => ext_old hg) (fun g hl hg => .inr (hY g hl hg))
 refine ⟨⟨h.box.kept k (fun e => by rw [e] at hpB; omega), (ext_old h.box.lt).trans h.pB, R.kinds (by omega), R.wrow (by omega), h.wlen, fun i x y => R.wat i x y (by omega), h.llen, h.lrow, h.five, fun i x ls => R.lat i x ls (by omega) (.inl (by omega)), fun i x => R.iat i x (by omega) (.inl (by omega)), R.yrow (by omega), ?_⟩, XMoved.of 0 k (fun g hl hg => by have := hY g hl hg; omega)⟩
 obtain ⟨D, h1, h2, h4⟩ := hv
 exact ⟨D, h1, (ext_old h.vals.lt).trans h3, h4⟩
theorem XAtO.retasks {i : Nat} {x : XW} {y : WorkerS} {l : List TaskS} (h : XAtO part W B s kv wv yv M xs) (hi : xs[i]? = some x) (hy : s.W[i]? = some y) (k : Kept (fun g => part g = 10 + i) W W')
  (hx : TaskListAt (fun b => part b = 10 + i /\ b < W.heap.size \/ W.heap.size <= b) W' x.T s.room l) : XAtO (ext W part (10 + i)) W' B { s with W := s.W.set i { y with tasks := l } } kv wv yv M xs /\ XMoved part (ext W part (10 + i)) W W' := by
 have hpB := h.pB
 have h5 := h.five
 have hil := (List.getElem?_eq_some_iff.1 hy).1
 have R := h.rest (part' := ext W part (10 + i)) (10 + i) k (fun g hg => ext_old hg) (fun g _ hg => .inr hg)
 refine ⟨⟨h.box.kept k (by omega), (ext_old h.box.lt).trans h.pB, R.kinds (by omega), R.wrow (by omega), by simpa using h.wlen, fun i' x' y' hx' hy' => ?_, by simpa using h.llen, by simpa using h.lrow, by simpa using h5, fun i x ls => R.lat i x ls (by omega) (.inl (by omega)), fun i x => R.iat i x (by omega) (.inl (by omega)), R.yrow (by omega), R.vals (by omega)⟩, XMoved.of _ k (fun g hl hg => by omega)⟩
 have hy1 : (s.W.set i { y with tasks := l })[i']? = some y' := hy'
 by_cases e : i' = i
 ·subst e
  rw [hi] at hx'
  obtain rfl := Option.some.inj hx'
  rw [List.getElem?_set_self hil] at hy1
  obtain rfl := Option.some.inj hy1
  refine ⟨⟨(h.wat i' x y hi hy).1.asked, (h.wat i' x y hi hy).1.sent, (h.wat i' x y hi hy).1.came, (h.wat i' x y hi hy).1.black⟩, hx.kept (Kept.refl (fun _ => False) W') (fun b _ hb => ⟨fun h => h, ?_⟩)⟩
  rcases hb with ⟨h1, h2⟩ | h1
  ·exact (ext_old h2).trans h1
  ·exact ext_new h1
 ·rw [List.getElem?_set_ne (fun e' => e e'.symm)] at hy1
  exact R.wat i' x' y' (by omega) hx' hy1
theorem XAtO.renote {i : Nat} {x x' : XW} {y y' : WorkerS} (h : XAtO part W B s kv wv yv M xs) (hi : xs[i]? = some x) (hy : s.W[i]? = some y) (ht : y'.tasks = y.tasks) (hn : x'.Notes y') (hT : x'.T = x.T /\ x'.outv = x.outv /\ x'.inv = x.inv) (k : Kept (fun g => part g = 7) W W')
  (hr : W'.ownsRow 0 136 7 wv (xs.set i x').length ((xs.set i x').flatMap xwEnc)) : XAtO (ext W part 0) W' B { s with W := s.W.set i y' } kv wv yv M (xs.set i x') /\ XMoved part (ext W part 0) W W' := by
 have hpB := h.pB
 have hil := (List.getElem?_eq_some_iff.1 hy).1
 have hxl := (List.getElem?_eq_some_iff.1 hi).1
 have R := h.rest (part' := ext W part 0) 7 k (fun g hg => ext_old hg) (fun g _ hg => .inr hg)
 refine ⟨⟨h.box.kept k (by omega), (ext_old h.box.lt).trans h.pB, R.kinds (by omega), ⟨hr, fun g e => (ext_old (h.wrow.1.lt g e).2).trans (h.wrow.2 g e)⟩, by simpa using h.wlen, fun i' z' z hx' hz => ?_, by simpa using h.llen, by simpa using h.lrow, by simpa using h.five, fun i' z' ls hx' hl => ?_, fun i' z' hx' => ?_, R.yrow (by omega), R.vals (by omega)⟩, XMoved.of _ k (fun g hl hg => by omega)⟩
 ·have hy1 : (s.W.set i y')[i']? = some z := hz
  by_cases e : i' = i
  ·subst e
   rw [List.getElem?_set_self hxl] at hx'
   obtain rfl := Option.some.inj hx'
   rw [List.getElem?_set_self hil] at hy1
   obtain rfl := Option.some.inj hy1
   exact ⟨hn, by rw [ht, hT.1]; exact (R.wat i' x y (by omega) hi hy).2⟩
  ·rw [List.getElem?_set_ne (fun e' => e e'.symm)] at hy1 hx'
   exact R.wat i' z' z (by omega) hx' hy1
 ·by_cases e : i' = i
  ·subst e
   rw [List.getElem?_set_self hxl] at hx'
   obtain rfl := Option.some.inj hx'
   rw [hT.2.1]
   exact R.lat i' x ls (by omega) (.inl (by omega)) hi hl
  ·rw [List.getElem?_set_ne (fun e' => e e'.symm)] at hx'
   exact R.lat i' z' ls (by omega) (.inl (by omega)) hx' hl
 ·by_cases e : i' = i
  ·subst e
   rw [List.getElem?_set_self hxl] at hx'
   obtain rfl := Option.some.inj hx'
   rw [hT.2.2]
   exact R.iat i' x (by omega) (.inl (by omega)) hi
  ·rw [List.getElem?_set_ne (fun e' => e e'.symm)] at hx'
   exact R.iat i' z' (by omega) (.inl (by omega)) hx'
theorem XInsAt.relink {i a b : Nat} {v : Value} {links : List (List LinkS)} {ls : List LinkS} {l l' : LinkS} (h : XInsAt part i W v links) (ha : links[a]? = some ls) (hb : ls[b]? = some l) (hl : b = i -> InLike l l') : XInsAt part i W v (links.set a (ls.set b l')) := by
 obtain ⟨qs, h1, h2, h3⟩ := h
 refine ⟨qs, h1, by simpa using h2, fun j q row z hq hr hz => ?_⟩
 by_cases e : j = a
 ·subst e
  rw [List.getElem?_set_self (List.getElem?_eq_some_iff.1 ha).1] at hr
  obtain rfl := Option.some.inj hr
  by_cases e : i = b
  ·subst e
   rw [List.getElem?_set_self (List.getElem?_eq_some_iff.1 hb).1] at hz
   obtain rfl := Option.some.inj hz
   exact (h3 j q ls l hq ha hb).like (hl rfl)
  ·rw [List.getElem?_set_ne (fun e' => e e'.symm)] at hz
   exact h3 j q ls z hq ha hz
 ·rw [List.getElem?_set_ne (fun e' => e e'.symm)] at hr
  exact h3 j q row z hq hr hz
theorem XAtO.relink {i j q : Nat} {x : XW} {ls : List LinkS} {l l' : LinkS} {qs : List (Option Nat)} (h : XAtO part W B s kv wv yv M xs) (hi : xs[i]? = some x) (hl : s.links[i]? = some ls) (hij : j ≠ i) (hqs : RowIn (fun b => part b = 9) 198 1 optEnc W x.outv qs) (hql : qs.length = ls.length) (hqe : ∀ j q l, qs[j]? = some q -> ls[j]? = some l -> EndAt part i j W l q) (hq : qs[j]? = some (some q)) (hlj : ls[j]? = some l) (hlk : InLike l l') (k : Kept (fun g => part g = 100 + 10 * i + j) W W')
  (hx : OutAt (fun b => part b = 100 + 10 * i + j /\ b < W.heap.size \/ W.heap.size <= b) W' q l') : XAtO (ext W part (100 + 10 * i + j)) W' B { s with links := s.links.set i (ls.set j l') } kv wv yv M xs /\ XMoved part (ext W part (100 + 10 * i + j)) W W' := by
 have hpB := h.pB
 have h5 := h.five
 have hil := (List.getElem?_eq_some_iff.1 hl).1
 have hll := h.lrow ls (List.mem_of_getElem? hl)
 have hjl : j < ls.length := by have := (List.getElem?_eq_some_iff.1 hq).1; omega
 have R := h.rest (part' := ext W part (100 + 10 * i + j)) (100 + 10 * i + j) k (fun g hg => ext_old hg) (fun g _ hg => .inr hg)
 have hllen := h.llen
 refine ⟨⟨h.box.kept k (by omega), (ext_old h.box.lt).trans h.pB, R.kinds (by omega), R.wrow (by omega), h.wlen, fun i' x' y' hx' hy' => R.wat i' x' y' (by have h' : i' < s.W.length := (List.getElem?_eq_some_iff.1 hy').1; omega) hx' hy', by simpa using h.llen, fun ls' hls' => ?_, h5, fun i' x' ls' hx' hl' => ?_, fun i' x' hx' => (R.iat i' x' (by omega) (.inl (by omega)) hx').relink hl hlj (fun _ => hlk), R.yrow (by omega), R.vals (by omega)⟩, XMoved.of _ k (fun g hl hg => by omega)⟩
 ·rcases List.mem_or_eq_of_mem_set hls' with h' | rfl
  ·exact h.lrow ls' h'
  ·simpa using hll
 ·have hl1 : (s.links.set i (ls.set j l'))[i']? = some ls' := hl'
  by_cases e : i' = i
  ·subst e
   rw [hi] at hx'
   obtain rfl := Option.some.inj hx'
   rw [List.getElem?_set_self hil] at hl1
   obtain rfl := Option.some.inj hl1
   refine ⟨qs, hqs.kept k (fun g hg e => ⟨by omega, (ext_old hg).trans e⟩), by simpa using hql, fun j' q' l hq' hl2 => ?_⟩
   by_cases e : j' = j
   ·subst e
    rw [hq] at hq'
    obtain rfl := Option.some.inj hq'
    rw [List.getElem?_set_self hjl] at hl2
    obtain rfl := Option.some.inj hl2
    refine ⟨hij, hx.kept (Kept.refl (fun _ => False) W') (fun b _ hb => ⟨fun h => h, ?_⟩)⟩
    rcases hb with ⟨h1, h2⟩ | h1
    ·exact (ext_old h2).trans h1
    ·exact ext_new h1
   ·rw [List.getElem?_set_ne (fun e' => e e'.symm)] at hl2
    exact (hqe j' q' l hq' hl2).kept k (fun g hg e => ⟨by omega, (ext_old hg).trans e⟩)
  ·rw [List.getElem?_set_ne (fun e' => e e'.symm)] at hl1
   have := h.lrow ls' (List.mem_of_getElem? hl1)
   exact R.lat i' x' ls' (by omega) (by omega) hx' hl1
end
def XGives (F : Nat -> Prop) (w : World) (B : Nat) (r : RunS × Int) (e : Ending) (w' : World) : Prop := e = .returned (.int .i64 r.2) /\ XOK (fun b => F b \/ w.heap.size <= b) w' B r.1 /\ Kept F w w'
end Go.Proofs.YteahdfeialekbaaGreatDoor
