/-
  gleanref's Run.Messages, Run.Drop and Run.Twice, the document's own answers.
-/
import Derived.Test.YteahdfeialekbaaGreatDoorRefSteal
import Derived.Test.YteahdfeialekbaaGreatDoorXOut
import Derived.Test.YteahdfeialekbaaGreatDoorXParts
namespace Go.Proofs.YteahdfeialekbaaGreatDoor
open Go Go.RowKit
def messageE (s : RunS) (i : Int) : Int := if startE s = 0 /\ (i < 0 \/ (s.way.length : Int) <= i) then 10 else startE s
def dropS (s : RunS) (i : Int) : RunS × Int := if messageE s i ≠ 0 then (s, messageE s i) else ({ s with way := s.way.take i.toNat ++ s.way.drop (i.toNat + 1) }, 0)
def twiceS (s : RunS) (i : Int) : RunS × Int := if messageE s i ≠ 0 then (s, messageE s i) else (wayS s (s.way[i.toNat]?.getD msg0), 0)
theorem messageE_in {s : RunS} {i : Int} (h : messageE s i = 0) : 0 <= i /\ i < (s.way.length : Int) := by
 unfold messageE at h
 split at h
 ·omega
 ·rename_i h'
  rw [h] at h'
  omega
theorem ref_messages_nil (w : World) : Calls Tryz.prog 42 #[.pointer none] w fun e w' => e = .returned (.tuple #[.slice none 0 0, .int .i64 1]) /\ w' = w := by
 go_enter Tryz.func42, Tryz.ntmps42
 go_wp2_with fail
 go_ret2
 exact ⟨rfl, rfl⟩
set_option maxHeartbeats 2000000 in
theorem ref_messages_calls (F : Nat -> Prop) (B : Nat) (s : RunS) (w : World) (hr : RefOK F w B s) (hs : Shaped s) :
  Calls Tryz.prog 42 #[.pointer (some ⟨B, 0, none⟩)] w fun e w' => ∃ v, e = .returned (.tuple #[v, .int .i64 0]) /\ w'.ownsRow w.heap.size 140 15 v s.way.length (s.way.flatMap msgEnc) /\ Below w.heap.size w w' := by
 obtain ⟨iM, hiM, hzM0, hzM1, hzM2⟩ := info_parts infoMessage
 obtain ⟨part, hF, hat⟩ := hr
 obtain ⟨kv, wv, lv, yv, vv, av, ps, rows, h⟩ := hat.opened
 obtain ⟨ya, yc, hyf⟩ := row_form h.yrow.1
 subst hyf
 have b8 : w.cell? ⟨B, 8, none⟩ = some (.slice ya s.way.length yc) := h.box.cell (o := 8) rfl
 have HROW := hid_of h.yrow.1
 have h60 := hs.way
 clear h hat hF hs
 go_enter Tryz.func42, Tryz.ntmps42
 go_wp2_with (at_builtin; refine wpList_append_row rfl _ _ _ rfl 140 iM _ 15 128 Tryz.underlying53 hiM hzM0 hzM1 hzM2 rfl (by omega) rfl 0 (.slice ya s.way.length yc) s.way.length (s.way.flatMap msgEnc) rfl HROW.out (flat_one msgEnc_one _) (by unfold maxLen; omega) (by omega) ?_; intro wv' w1 hrow1 hk1)
 go_ret2
 exact ⟨_, rfl, hrow1, hk1.below (Nat.le_refl _) (fun _ h => h.elim)⟩
theorem ref_message_nil (i : Int) (w : World) : Calls Tryz.prog 95 #[.pointer none, .int .i64 i] w fun e w' => e = .returned (.int .i64 1) /\ w' = w := by
 go_enter Tryz.func95, Tryz.ntmps95
 go_wp2_with (go_at_call 102; refine (ref_begins_nil w).mono ?_; rintro e w1 ⟨rfl, rfl⟩)
 go_ret
 exact ⟨rfl, rfl⟩
set_option maxHeartbeats 1000000 in
theorem ref_message_calls (F : Nat -> Prop) (B : Nat) (s : RunS) (i : Int) (w : World) (hr : RefOK F w B s) : Calls Tryz.prog 95 #[.pointer (some ⟨B, 0, none⟩), .int .i64 i] w fun e w' => e = .returned (.int .i64 (messageE s i)) /\ w = w' := by
 have HB : Hid (Calls Tryz.prog 102 #[.pointer (some ⟨B, 0, none⟩)] w fun e w' => e = .returned (.int .i64 (startE s)) /\ w = w') := (ref_begins_calls F B s w hr).mono fun e w' h => ⟨h.1, h.2.symm⟩
 obtain ⟨part, hF, hat⟩ := hr
 obtain ⟨kv, wv, lv, yv, vv, av, ps, rows, h⟩ := hat.opened
 obtain ⟨ya, yc, hyf⟩ := row_form h.yrow.1
 subst hyf
 have b8 : w.cell? ⟨B, 8, none⟩ = some (.slice ya s.way.length yc) := h.box.cell (o := 8) rfl
 clear h hat hF
 obtain ⟨e, he⟩ : ∃ e, startE s = e := ⟨_, rfl⟩
 obtain ⟨n, hn⟩ : ∃ n, s.way.length = n := ⟨_, rfl⟩
 have hw : messageE s i = if e = 0 /\ (i < 0 \/ (n : Int) <= i) then 10 else e := by simp [messageE, he, hn]
 rw [hw]
 rw [he] at HB
 rw [hn] at b8
 clear hw he hn
 go_enter Tryz.func95, Tryz.ntmps95
 by_cases h0 : e = 0
 ·subst h0
  by_cases h1 : i < 0
  ·rw [if_pos ⟨rfl, .inl h1⟩]
   go_wp2_with (go_at_call 102; refine HB.out.mono ?_; rintro e w1 ⟨rfl, rfl⟩)
   go_ret
   exact ⟨rfl, rfl⟩
  ·by_cases h2 : (n : Int) <= i
   ·rw [if_pos ⟨rfl, .inr h2⟩]
    go_wp2_with (go_at_call 102; refine HB.out.mono ?_; rintro e w1 ⟨rfl, rfl⟩)
    go_ret
    exact ⟨rfl, rfl⟩
   ·rw [if_neg (by omega)]
    go_wp2_with (go_at_call 102; refine HB.out.mono ?_; rintro e w1 ⟨rfl, rfl⟩)
    go_ret
    exact ⟨rfl, rfl⟩
 ·rw [if_neg (by omega)]
  have hb : (e == 0) = false := by rw [beq_eq_false_iff_ne]; exact h0
  go_wp2_with (go_at_call 102; refine HB.out.mono ?_; rintro e w1 ⟨rfl, rfl⟩)
  go_ret
  exact ⟨rfl, rfl⟩
theorem RefAtO.msg {part : Nat -> Nat} {w : World} {B : Nat} {s : RunS} {kv wv lv yv vv av : Value} {ps : List Nat} {rows : List (Value × List Nat)} (h : RefAtO part w B s kv wv lv yv vv av ps rows) {k : Nat} {m : MsgS} (hk : s.way[k]? = some m) :
  ∃ gy yc, yv = .slice (some ⟨gy, 0, none⟩) s.way.length yc /\ gy < w.heap.size /\ part gy = 2 /\ (∀ o u, (msgCells m)[o]? = some u -> w.cell? ⟨gy, k * 15 + o, none⟩ = some u) /\ (∀ j u, (s.way.flatMap msgEnc)[j]? = some u -> w.cell? ⟨gy, j, none⟩ = some u) /\ s.way.length <= yc := by
 obtain ⟨gy, yc, hyf, -, hgl⟩ := World.ownsRow.form h.yrow.1 (by have := (List.getElem?_eq_some_iff.1 hk).1; omega)
 subst hyf
 have hc : ∀ j u, (s.way.flatMap msgEnc)[j]? = some u -> w.cell? ⟨gy, j, none⟩ = some u := fun j u hj => by
  have := h.yrow.1.cells (g := gy) rfl j u hj
  rwa [addr_add] at this
 refine ⟨gy, yc, rfl, hgl, h.yrow.2 gy rfl, fun o u ho => hc _ _ (flat_get (sz := 15) (enc := msgEnc) (fun _ => rfl) s.way k m o u hk (by simpa [msgEnc] using ho)), hc, ?_⟩
 rcases h.yrow.1.2 with ⟨h0, _⟩ | ⟨g', cap', cur, h0, _, _, h1, _⟩
 ·cases h0
 ·cases h0; omega
set_option maxHeartbeats 4000000 in
set_option maxRecDepth 100000 in
theorem ref_out_o {part : Nat -> Nat} {w : World} {B : Nat} {s : RunS} {kv wv lv yv vv av : Value} {ps : List Nat} {rows : List (Value × List Nat)} (h : RefAtO part w B s kv wv lv yv vv av ps rows) (hn : s.way.length <= 1000) (k : Nat) (m : MsgS) (hk : s.way[k]? = some m) :
  Calls Tryz.prog 96 #[.pointer (some ⟨B, 0, none⟩), .int .i64 (k : Int)] w fun e w' => e = .returned (.agg (msgCells m)) /\ ∃ part' yv', RefAtO part' w' B { s with way := s.way.take k ++ s.way.drop (k + 1) } kv wv lv yv' vv av ps rows /\ Moved part part' w w' := by
 obtain ⟨iM, hiM, hzM0, hzM1, hzM2⟩ := info_parts infoMessage
 obtain ⟨gy, yc, hyf, hgy, hpy, hcm, hcy, hcap⟩ := h.msg hk
 subst hyf
 have hkl := (List.getElem?_eq_some_iff.1 hk).1
 have b8 : w.cell? ⟨B, 8, none⟩ = some (.slice (some ⟨gy, 0, none⟩) s.way.length yc) := h.box.cell (o := 8) rfl
 have m0 : w.cell? ⟨gy, k * 15, none⟩ = some (.int .i64 m.src) := hcm 0 _ rfl
 have m1 := hcm 1 _ rfl
 have m2 := hcm 2 _ rfl
 have m3 := hcm 3 _ rfl
 have m4 := hcm 4 _ rfl
 have m5 := hcm 5 _ rfl
 have m6 := hcm 6 _ rfl
 have m7 := hcm 7 _ rfl
 have m8 := hcm 8 _ rfl
 have m9 := hcm 9 _ rfl
 have m10 := hcm 10 _ rfl
 have m11 := hcm 11 _ rfl
 have m12 := hcm 12 _ rfl
 have m13 := hcm 13 _ rfl
 have m14 := hcm 14 _ rfl
 have i0 : (0 : Int) <= (k : Int) := by omega
 have i1 : (k : Int) < (s.way.length : Int) := by omega
 have hbl := h.box.lt
 have HH := hid_of h
 clear h hcm
 go_enter Tryz.func96, Tryz.ntmps96
 go_upto_region 3 with fail
 obtain ⟨Z, hZ⟩ : ∃ Z, (w.alloc (Obj.cells (msgCells msg0) 140)).alloc (Obj.cells (msgCells m) 140) = Z := ⟨_, rfl⟩
 have hbZ : Below w.heap.size w Z := by rw [<- hZ]; exact ((Below.refl _ _).alloc (Nat.le_refl _) _).alloc (by simp) _
 have HB0 : Hid (BoxAt Z w.heap.size 140 (msgCells msg0)) := by rw [<- hZ]; exact (BoxAt.new w _ _).alloc _
 have HBM : Hid (BoxAt Z (w.heap.size + 1) 140 (msgCells m)) := by rw [<- hZ]; exact boxAt_at _ _ _ _ (by simp)
 have SZ : Hid (Z.heap.size = w.heap.size + 2) := by show _ = _; rw [<- hZ]; simp
 have b8' := (hbZ.cell (p := ⟨B, 8, none⟩) hbl).trans b8
 have HBZ := hid_of hbZ
 have HCY : Hid (∀ j u, (s.way.flatMap msgEnc)[j]? = some u -> Z.cell? ⟨gy, j, none⟩ = some u) := fun j u hj => (hbZ.cell (p := ⟨gy, j, none⟩) hgy).trans (hcy j u hj)
 have e0 : (w.alloc (Obj.cells (msgCells msg0) 140)).alloc (Obj.cells (msgCells m) 140) = Z := hZ
 simp only [msg0] at e0
 rw [e0]
 clear e0 hZ hbZ b8 m0 m1 m2 m3 m4 m5 m6 m7 m8 m9 m10 m11 m12 m13 m14 hcy
 have j1 : (k : Int) <= (yc : Int) := by omega
 have j2 : k <= yc := by omega
 have HT1 : Hid (((s.way.take k).flatMap msgEnc).length = k * 15) := by show _ = _; rw [flat_length (sz := 15) (enc := msgEnc) (fun _ => rfl), List.length_take, Nat.min_eq_left (by omega)]
 have HT2 : Hid (((s.way.drop (k + 1)).flatMap msgEnc).length = (s.way.length - (k + 1)) * 15) := by show _ = _; rw [flat_length (sz := 15) (enc := msgEnc) (fun _ => rfl), List.length_drop]
 have HSP : Hid (s.way.flatMap msgEnc = (s.way.take k).flatMap msgEnc ++ (msgEnc m ++ (s.way.drop (k + 1)).flatMap msgEnc)) := by
  show _ = _
  rw [<- List.flatMap_cons, <- List.flatMap_append]
  congr 1
  rw [List.getElem?_eq_some_iff] at hk
  obtain ⟨h1, rfl⟩ := hk
  rw [<- List.drop_eq_getElem_cons h1, List.take_append_drop]
 have HN1 : Hid (∀ j u, ((s.way.take k).flatMap msgEnc)[j]? = some u -> ∃ b, (some ⟨gy, 0, none⟩ : Option Addr) = some b /\ Z.cell? (b.add j) = some u) := fun j u hj => by
  refine ⟨_, rfl, ?_⟩
  rw [addr_add]
  refine HCY.out j u ?_
  rw [HSP.out, List.getElem?_append_left (List.getElem?_eq_some_iff.1 hj).1]
  exact hj
 have a1 : IntKind.i64.wrap ((k : Int) + 1) = (k : Int) + 1 := IntWalk.i64_in _ (by omega)
 have j3 : (0 : Int) <= (k : Int) + 1 := by omega
 have j4 : (k : Int) + 1 <= (s.way.length : Int) := by omega
 go_upto_region 4 with (at_builtin; refine wpList_append_any rfl _ _ _ rfl Z.heap.size 140 iM _ 15 128 Tryz.underlying53 hiM hzM0 hzM1 hzM2 rfl (by omega) (.slice none 0 0) 0 [] rfl (World.ownsRow_nil _ _ _ _) (some ⟨gy, 0, none⟩) k yc ((s.way.take k).flatMap msgEnc) rfl HT1.out HN1.out (flat_one msgEnc_one _) (by unfold maxLen; omega) (by omega) (Nat.le_refl _) ?_; intro v1 w1 hown1 hgrow1; rw [Nat.zero_add, List.nil_append] at hown1; obtain ⟨a1', c1', rfl⟩ := row_form hown1; have b8'' := (hgrow1.cell_far ⟨B, 8, none⟩ (by simp; have := SZ.out; omega) (fun e => by cases e)).trans b8')
 have k1 : Kept (fun _ => False) Z w1 := Kept.grown hgrow1 (fun r e => by cases e)
 have HOWN1 := hid_of hown1
 have HK1 := hid_of k1
 have hbl1 : B < w1.heap.size := by have := k1.size; have := SZ.out; omega
 have SZ1 := k1.size
 have hk1 : k + (s.way.length - (k + 1)) <= 1000 := by omega
 have hgy1 : gy < Z.heap.size := by have := SZ.out; omega
 have HN2 : Hid (∀ j u, ((s.way.drop (k + 1)).flatMap msgEnc)[j]? = some u -> w1.cell? ⟨gy, (k + 1) * 15 + j, none⟩ = some u) := fun j u hj => by
  have h1 := HCY.out ((k + 1) * 15 + j) u (by
   rw [HSP.out, List.getElem?_append_right (by rw [HT1.out]; omega), HT1.out, List.getElem?_append_right (by show 15 <= _; omega)]
   have e : (k + 1) * 15 + j - k * 15 - (msgEnc m).length = j := by show _ - 15 = _; omega
   rw [e]
   exact hj)
  exact (HK1.out.cell (p := ⟨gy, (k + 1) * 15 + j, none⟩) hgy1 (fun h => h)).trans h1
 clear k1 hown1 hgrow1 b8'
 go_cut [6] (fun v2 w2 => w2.ownsRow Z.heap.size 140 15 v2 (k + (s.way.length - (k + 1))) ((s.way.take k).flatMap msgEnc ++ (s.way.drop (k + 1)).flatMap msgEnc) /\ Kept (fun b => Z.heap.size <= b) w1 w2)
 case first =>
  by_cases hyc : yc = k + 1
  ·subst hyc
   have HD : Hid ((s.way.drop (k + 1)).flatMap msgEnc = []) := by show _ = _; rw [List.drop_eq_nil_of_le (by omega)]; rfl
   go_wp2_with (at_builtin; (refine wpList_append_any rfl _ _ _ rfl Z.heap.size 140 iM _ 15 128 Tryz.underlying53 hiM hzM0 hzM1 hzM2 rfl (by omega) (.slice a1' k c1') k ((s.way.take k).flatMap msgEnc) rfl HOWN1.out (some ⟨gy, 0, none⟩) 0 0 [] rfl rfl (fun j u hj => by simp at hj) (fun u hu => by simp at hu) (by unfold maxLen; omega) (by omega) SZ1 ?_); (intro v2 w2 hown2 hgrow2))
   go_meet
   case rel =>
    refine ⟨?_, Kept.grown hgrow2 (fun r e => (HOWN1.out.lt r e).1)⟩
    rw [HD.out, show s.way.length - (k + 1) = 0 by omega]
    exact hown2
  ·have hy1 : ¬ yc - (k + 1) = 0 := by omega
   have hy2 : k + 1 < yc := by omega
   have hy3 : (k : Int) + 1 < (yc : Int) := by omega
   have HN3 : Hid (∀ j u, ((s.way.drop (k + 1)).flatMap msgEnc)[j]? = some u -> ∃ b, (some ⟨gy, (k + 1) * 15, none⟩ : Option Addr) = some b /\ w1.cell? (b.add j) = some u) := fun j u hj => ⟨_, rfl, by
    have e : (⟨gy, (k + 1) * 15, none⟩ : Addr).add j = ⟨gy, (k + 1) * 15 + j, none⟩ := by unfold Addr.add; split <;> simp_all
    rw [e]
    exact HN2.out j u hj⟩
   go_wp2_with (at_builtin; (refine wpList_append_any rfl _ _ _ rfl Z.heap.size 140 iM _ 15 128 Tryz.underlying53 hiM hzM0 hzM1 hzM2 rfl (by omega) (.slice a1' k c1') k ((s.way.take k).flatMap msgEnc) rfl HOWN1.out (some ⟨gy, (k + 1) * 15, none⟩) (s.way.length - (k + 1)) (yc - (k + 1)) ((s.way.drop (k + 1)).flatMap msgEnc) rfl HT2.out HN3.out (flat_one msgEnc_one _) (by unfold maxLen; omega) (by omega) SZ1 ?_); (intro v2 w2 hown2 hgrow2))
   go_meet
   case rel => exact ⟨hown2, Kept.grown hgrow2 (fun r e => (HOWN1.out.lt r e).1)⟩
 case rest =>
 obtain ⟨hown2, k2⟩ := hcut
 rename World => w2
 obtain ⟨a2', c2', h2f⟩ := row_form hown2
 subst h2f
 have k02 : Kept (fun b => Z.heap.size <= b) Z w2 := (HK1.out.mono (fun _ _ h => h.elim)).trans k2
 have HB02 : Hid (BoxAt w2 w.heap.size 140 (msgCells msg0)) := HB0.out.kept k02 (by have := SZ.out; omega)
 have HBM2 : Hid (BoxAt w2 (w.heap.size + 1) 140 (msgCells m)) := HBM.out.kept k02 (by have := SZ.out; omega)
 have bR2 : BoxAt w2 B 103 _ := (HH.out.box.below HBZ.out hbl).kept k02 (by have := SZ.out; omega)
 have b8 := bR2.cell (o := 8) rfl
 have f8 := bR2.frozen 8
 have HBR2 := hid_of bR2
 have HOWN2 := hid_of hown2
 have HK02 := hid_of k02
 clear k2 k02 bR2 hown2
 obtain ⟨n2, hn2⟩ : ∃ n2, k + (s.way.length - (k + 1)) = n2 := ⟨_, rfl⟩
 have HN8 := hid_of hn2
 rw [hn2] at HOWN2
 rw [hn2]
 clear hn2
 have fr := HB02.out.frozen
 obtain ⟨nm0, nm1, nm2, nm3, nm4, nm5, nm6, nm7, nm8, nm9, nm10, nm11, nm12, nm13, nm14⟩ := cells15 HBM2.out
 obtain ⟨z0, z1, z2, z3, z4, z5, z6, z7, z8, z9, z10, z11, z12, z13, z14⟩ := cells15 HB02.out
 go_wp2_with fail
 change bodyPost Tryz.prog Tryz.f96 _ Exit.ret _ (putAll (w2.setCell ⟨B, 8, none⟩ (.slice a2' n2 c2')) w.heap.size 0 (msgEnc m))
 have kS : Kept (· = B) w2 (w2.setCell ⟨B, 8, none⟩ (.slice a2' n2 c2')) := (Kept.refl _ _).setCell (.inl (by rfl)) _
 have kA : Kept (fun g => g = B \/ part g = 2) w (putAll (w2.setCell ⟨B, 8, none⟩ (.slice a2' n2 c2')) w.heap.size 0 (msgEnc m)) := kept_putAll (.inr (Nat.le_refl _)) _ _ _ (((Kept.of_below HBZ.out (fun k h1 h2 => absurd h1 (by omega))).andThen HK02.out (fun b h1 h2 => by have := SZ.out; omega)).trans (kS.mono (fun _ _ h => .inl h)))
 have kP : Kept (· = w.heap.size) (w2.setCell ⟨B, 8, none⟩ (.slice a2' n2 c2')) (putAll (w2.setCell ⟨B, 8, none⟩ (.slice a2' n2 c2')) w.heap.size 0 (msgEnc m)) := kept_putAll (X := fun x => x = w.heap.size) (.inl rfl) _ _ _ (Kept.refl _ _)
 have hbz := box_putAll (msgEnc m) (HB02.out.far ⟨B, 8, none⟩ (.slice a2' n2 c2') (by show w.heap.size ≠ B; omega)) rfl
 generalize putAll (w2.setCell ⟨B, 8, none⟩ (.slice a2' n2 c2')) w.heap.size 0 (msgEnc m) = V at kA kP hbz ⊢
 have hbv : BoxAt V w.heap.size 140 (msgCells m) := hbz
 obtain ⟨q0, q1, q2, q3, q4, q5, q6, q7, q8, q9, q10, q11, q12, q13, q14⟩ := cells15 hbv
 refine bodyPost_ret (v := .agg (msgCells m)) ?_ rfl ⟨rfl, ?_⟩
 ·simp [results, Tryz.results96, go_sem, q0, q1, q2, q3, q4, q5, q6, q7, q8, q9, q10, q11, q12, q13, q14]
 ·obtain ⟨h1, h2⟩ := HH.out.reway (way' := s.way.take k ++ s.way.drop (k + 1)) kA ((HBR2.out.setAt 8 _).kept kP (by omega)) (by
   rw [List.flatMap_append, List.length_append, List.length_take, List.length_drop, Nat.min_eq_left (by omega), HN8.out]
   exact ownsRow_base (row_kept (row_kept HOWN2.out kS (fun g' e h => by subst h; exact row_ne HOWN2.out HBR2.out (by decide) e) (Nat.le_refl _)) kP (fun g' e h => by have := (HOWN2.out.lt g' e).1; have := SZ.out; omega) (Nat.le_refl _)) (Nat.zero_le _)) (fun g' e => .inr (by have := (HOWN2.out.lt g' e).1; have := SZ.out; omega))
  exact ⟨_, _, h1, h2⟩
theorem ref_drop_nil (i : Int) (w : World) : Calls Tryz.prog 52 #[.pointer none, .int .i64 i] w fun e w' => e = .returned (.int .i64 1) /\ w' = w := by
 go_enter Tryz.func52, Tryz.ntmps52
 go_wp2_with (go_at_call 95; refine (ref_message_nil _ _).mono ?_; rintro e w1 ⟨rfl, hq⟩; obtain rfl := hq.symm)
 go_ret
 exact ⟨rfl, rfl⟩
theorem ref_twice_nil (i : Int) (w : World) : Calls Tryz.prog 54 #[.pointer none, .int .i64 i] w fun e w' => e = .returned (.int .i64 1) /\ w' = w := by
 go_enter Tryz.func54, Tryz.ntmps54
 go_wp2_with (go_at_call 95; refine (ref_message_nil _ _).mono ?_; rintro e w1 ⟨rfl, hq⟩; obtain rfl := hq.symm)
 go_ret
 exact ⟨rfl, rfl⟩
set_option maxHeartbeats 2000000 in
set_option maxRecDepth 100000 in
theorem ref_drop_calls (F : Nat -> Prop) (B : Nat) (s : RunS) (i : Int) (w : World) (hr : RefOK F w B s) (hs : Shaped s) : Calls Tryz.prog 52 #[.pointer (some ⟨B, 0, none⟩), .int .i64 i] w (RefGives F w B (dropS s i)) := by
 have HE : Hid (Calls Tryz.prog 95 #[.pointer (some ⟨B, 0, none⟩), .int .i64 i] w fun e w' => e = .returned (.int .i64 (messageE s i)) /\ w = w') := ref_message_calls F B s i w hr
 have HR := hid_of hr
 by_cases h1 : messageE s i = 0
 case neg =>
  have HS : Hid (dropS s i = (s, messageE s i)) := by show _ = _; simp [dropS, h1]
  obtain ⟨e1, he1⟩ : ∃ e1, messageE s i = e1 := ⟨_, rfl⟩
  rw [he1] at HE h1 HS
  have hb : (e1 == 0) = false := by rw [beq_eq_false_iff_ne]; exact h1
  clear he1 h1 hr
  go_enter Tryz.func52, Tryz.ntmps52
  go_wp2_with (go_at_call 95; refine HE.out.mono ?_; rintro e w1 ⟨rfl, rfl⟩)
  go_ret
  rw [HS.out]
  exact RefGives.same HR.out _
 obtain ⟨hi0, hi1⟩ := messageE_in h1
 rw [h1] at HE
 obtain ⟨k, rfl⟩ := Int.eq_ofNat_of_zero_le hi0
 obtain ⟨m, hm⟩ : ∃ m, s.way[k]? = some m := ⟨_, List.getElem?_eq_getElem (by omega)⟩
 have HS : Hid (dropS s k = ({ s with way := s.way.take k ++ s.way.drop (k + 1) }, 0)) := by show _ = _; simp [dropS, h1]
 obtain ⟨part, hF, hat⟩ := hr
 obtain ⟨kv, wv, lv, yv, vv, av, ps, rows, h⟩ := hat.opened
 have HO : Hid (Calls Tryz.prog 96 #[.pointer (some ⟨B, 0, none⟩), .int .i64 (k : Int)] w _) := ref_out_o h (by have := hs.way; omega) k m hm
 have HF := hid_of hF
 clear h hat hF h1
 go_enter Tryz.func52, Tryz.ntmps52
 go_wp2_with (first
  | (go_at_call 95; refine HE.out.mono ?_; rintro e w1 ⟨rfl, rfl⟩)
  | (go_at_call 96; refine HO.out.mono ?_; rintro e w2 ⟨rfl, part2, yv2, h2, hm2⟩))
 go_ret
 rw [HS.out]
 exact RefGives.of rfl h2 hm2 HF.out
set_option maxHeartbeats 2000000 in
set_option maxRecDepth 100000 in
theorem ref_twice_calls (F : Nat -> Prop) (B : Nat) (s : RunS) (i : Int) (w : World) (hr : RefOK F w B s) (hs : Shaped s) : Calls Tryz.prog 54 #[.pointer (some ⟨B, 0, none⟩), .int .i64 i] w (RefGives F w B (twiceS s i)) := by
 have HE : Hid (Calls Tryz.prog 95 #[.pointer (some ⟨B, 0, none⟩), .int .i64 i] w fun e w' => e = .returned (.int .i64 (messageE s i)) /\ w = w') := ref_message_calls F B s i w hr
 have HR := hid_of hr
 by_cases h1 : messageE s i = 0
 case neg =>
  have HS : Hid (twiceS s i = (s, messageE s i)) := by show _ = _; simp [twiceS, h1]
  obtain ⟨e1, he1⟩ : ∃ e1, messageE s i = e1 := ⟨_, rfl⟩
  rw [he1] at HE h1 HS
  have hb : (e1 == 0) = false := by rw [beq_eq_false_iff_ne]; exact h1
  clear he1 h1 hr
  go_enter Tryz.func54, Tryz.ntmps54
  go_wp2_with (go_at_call 95; refine HE.out.mono ?_; rintro e w1 ⟨rfl, rfl⟩)
  go_ret
  rw [HS.out]
  exact RefGives.same HR.out _
 obtain ⟨hi0, hi1⟩ := messageE_in h1
 rw [h1] at HE
 obtain ⟨k, rfl⟩ := Int.eq_ofNat_of_zero_le hi0
 obtain ⟨m, hm⟩ : ∃ m, s.way[k]? = some m := ⟨_, List.getElem?_eq_getElem (by omega)⟩
 have HS : Hid (twiceS s k = (wayS s m, 0)) := by show _ = _; simp [twiceS, h1, hm]
 obtain ⟨part, hF, hat⟩ := hr
 obtain ⟨kv, wv, lv, yv, vv, av, ps, rows, h⟩ := hat.opened
 have HO : Hid (Calls Tryz.prog 98 #[.pointer (some ⟨B, 0, none⟩), .agg (msgCells m)] w _) := ref_put_o m h (by have := hs.way; omega)
 obtain ⟨gy, yc, hyf, hgy, hpy, hcm, -⟩ := h.msg hm
 subst hyf
 have b8 : w.cell? ⟨B, 8, none⟩ = some (.slice (some ⟨gy, 0, none⟩) s.way.length yc) := h.box.cell (o := 8) rfl
 have m0 : w.cell? ⟨gy, k * 15, none⟩ = some (.int .i64 m.src) := hcm 0 _ rfl
 have m1 := hcm 1 _ rfl
 have m2 := hcm 2 _ rfl
 have m3 := hcm 3 _ rfl
 have m4 := hcm 4 _ rfl
 have m5 := hcm 5 _ rfl
 have m6 := hcm 6 _ rfl
 have m7 := hcm 7 _ rfl
 have m8 := hcm 8 _ rfl
 have m9 := hcm 9 _ rfl
 have m10 := hcm 10 _ rfl
 have m11 := hcm 11 _ rfl
 have m12 := hcm 12 _ rfl
 have m13 := hcm 13 _ rfl
 have m14 := hcm 14 _ rfl
 have HF := hid_of hF
 clear h hat hF h1 hcm
 go_enter Tryz.func54, Tryz.ntmps54
 go_wp2_with (first
  | (go_at_call 95; refine HE.out.mono ?_; rintro e w1 ⟨rfl, rfl⟩)
  | (go_at_call 98; refine HO.out.mono ?_; rintro e w2 ⟨rfl, part2, yv2, h2, hm2⟩))
 go_ret
 rw [HS.out]
 exact RefGives.of rfl h2 hm2 HF.out
def againS (s : RunS) (l : LinkS) : RunS := if l.known < (l.all.length : Int) then wayS s (l.all[l.known.toNat]?.getD msg0) else s
def tickS (s : RunS) (i : Int) : RunS × Int := if workerE s i ≠ 0 then (s, workerE s i) else ((s.links[i.toNat]?.getD []).foldl againS s, 0)
theorem wayS_eq (s : RunS) (m : MsgS) : ∃ y, wayS s m = { s with way := y } /\ (s.way.length <= 60 -> y.length <= 60) := by
 unfold wayS
 split
 ·exact ⟨_, rfl, fun _ => by simp; omega⟩
 ·exact ⟨s.way, rfl, fun h => h⟩
theorem againS_eq (s : RunS) (l : LinkS) : ∃ y, againS s l = { s with way := y } /\ (s.way.length <= 60 -> y.length <= 60) := by
 unfold againS
 split
 ·exact wayS_eq s _
 ·exact ⟨s.way, rfl, fun h => h⟩
theorem again_fold : ∀ (ls : List LinkS) (s : RunS), ∃ y, ls.foldl againS s = { s with way := y } /\ (s.way.length <= 60 -> y.length <= 60)
 | [], s => ⟨s.way, rfl, fun h => h⟩
 | l :: r, s => by
  obtain ⟨y, h1, h2⟩ := againS_eq s l
  obtain ⟨y', h3, h4⟩ := again_fold r { s with way := y }
  rw [List.foldl_cons, h1]
  exact ⟨y', h3, fun h => h4 (h2 h)⟩
theorem LinkAt.thing {X : Nat -> Prop} {w : World} {q : Nat} {l : LinkS} {m : MsgS} {k : Nat} (h : LinkAt X w q l) (hk : l.all[k]? = some m) :
  ∃ ga ac kv, BoxAt w q 146 (linkCells (.slice (some ⟨ga, 0, none⟩) l.all.length ac) kv l) /\ ga < w.heap.size /\ ∀ o u, (msgCells m)[o]? = some u -> w.cell? ⟨ga, k * 15 + o, none⟩ = some u := by
 obtain ⟨av, kv, h1, h2, h3, h4⟩ := h
 obtain ⟨ga, ac, hf, -, hgl⟩ := World.ownsRow.form h3.1 (by have := (List.getElem?_eq_some_iff.1 hk).1; omega)
 subst hf
 refine ⟨ga, ac, kv, h1, hgl, fun o u ho => ?_⟩
 have := h3.1.cells (g := ga) rfl _ u (flat_get (sz := 15) (enc := msgEnc) (fun _ => rfl) l.all k m o u hk (by simpa [msgEnc] using ho))
 rwa [addr_add] at this
theorem ref_tick_nil (i : Int) (w : World) : Calls Tryz.prog 56 #[.pointer none, .int .i64 i] w fun e w' => e = .returned (.int .i64 1) /\ w' = w := by
 go_enter Tryz.func56, Tryz.ntmps56
 go_wp2_with (go_at_call 84; refine (ref_worker_nil _ _).mono ?_; rintro e w1 ⟨rfl, hq⟩; obtain rfl := hq.symm)
 go_ret
 exact ⟨rfl, rfl⟩
set_option maxHeartbeats 8000000 in
set_option maxRecDepth 100000 in
theorem ref_tick_calls (F : Nat -> Prop) (B N : Nat) (s : RunS) (i : Int) (w : World) (hr : RefOK F w B s) (hs : Shaped s) (hN : Small N s) : Calls Tryz.prog 56 #[.pointer (some ⟨B, 0, none⟩), .int .i64 i] w (RefGives F w B (tickS s i)) := by
 have HE : Hid (Calls Tryz.prog 84 #[.pointer (some ⟨B, 0, none⟩), .int .i64 i] w fun e w' => e = .returned (.int .i64 (workerE s i)) /\ w = w') := (ref_worker_calls F B s i w hr).mono fun e w' h => ⟨h.1, h.2.symm⟩
 have HR := hid_of hr
 by_cases h1 : workerE s i = 0
 case neg =>
  have HS : Hid (tickS s i = (s, workerE s i)) := by show _ = _; simp [tickS, h1]
  obtain ⟨e1, he1⟩ : ∃ e1, workerE s i = e1 := ⟨_, rfl⟩
  rw [he1] at HE h1 HS
  have hb : (e1 == 0) = false := by rw [beq_eq_false_iff_ne]; exact h1
  clear he1 h1 hr
  go_enter Tryz.func56, Tryz.ntmps56
  go_wp2_with (go_at_call 84; refine HE.out.mono ?_; rintro e w1 ⟨rfl, rfl⟩)
  go_ret
  rw [HS.out]
  exact RefGives.same HR.out _
 obtain ⟨hi0, hi1⟩ := workerE_in h1
 rw [h1] at HE
 obtain ⟨k, x, rfl, hx, hk5⟩ := hs.worker hi0 hi1
 have hkl := (List.getElem?_eq_some_iff.1 hx).1
 obtain ⟨ls, l0, hls, -⟩ := hs.link hkl hkl
 have hlen := hs.lrow ls (List.mem_of_getElem? hls)
 have hwk : s.workers = (ls.length : Int) := by rw [<- hs.len, hlen]
 have HS : Hid (tickS s k = (ls.foldl againS s, 0)) := by show _ = _; simp [tickS, h1, hls]
 obtain ⟨part, hF, hat⟩ := hr
 obtain ⟨kv, wv, lv, yv, vv, av, ps, rows, h⟩ := hat.opened
 have h5 := hs.five
 have hl5 : ls.length <= 5 := by have := hs.len; omega
 have HH := hid_of h
 have HF := hid_of hF
 have HHS := hid_of hs
 have HNN := hid_of hN
 have HLS := hid_of hls
 have HWK := hid_of hwk
 clear h hat hF h1 hs hN hls hwk hlen hx h5 hi0 hi1
 go_enter Tryz.func56, Tryz.ntmps56
 go_wp2_with (go_at_call 84; refine HE.out.mono ?_; rintro e w1 ⟨rfl, rfl⟩)
 go_loopw [6] (fun iv wr => ∃ (q : Nat) (part' : Nat -> Nat) (yv' : Value), iv = .int .i64 (q : Int) /\ q <= ls.length /\ RefAtO part' wr B ((ls.take q).foldl againS s) kv wv lv yv' vv av ps rows /\ Moved part part' w wr) (fun iv _ => ls.length - (intOf iv).toNat)
 case atStart => exact ⟨0, part, yv, rfl, Nat.zero_le _, HH.out, ⟨Kept.refl _ _, fun _ _ h => h⟩⟩
 case round =>
  obtain ⟨q, part', yv', rfl, hq, h, hm⟩ := hrel
  rename World => wr
  obtain ⟨y, hy, hy60⟩ := again_fold (ls.take q) s
  obtain ⟨s', hs'⟩ : ∃ s', (ls.take q).foldl againS s = s' := ⟨_, rfl⟩
  rw [hs'] at hy h
  have hlk : s'.links = s.links := by rw [hy]
  have hwk' : s'.workers = (ls.length : Int) := by rw [hy]; exact HWK.out
  have hway : s'.way.length <= 60 := by rw [hy]; exact hy60 HHS.out.way
  have b0 : wr.cell? ⟨B, 0, none⟩ = some (.int .i64 (ls.length : Int)) := by rw [<- hwk']; exact h.box.cell (o := 0) rfl
  have HM := hid_of hm
  have HS' := hid_of hs'
  clear hm hy hy60 hwk'
  by_cases hlt : q < ls.length
  ·obtain ⟨l, hl⟩ : ∃ l, ls[q]? = some l := ⟨_, List.getElem?_eq_getElem hlt⟩
   have hnext : (ls.take (q + 1)).foldl againS s = againS s' l := by
    rw [List.take_add_one, hl, List.foldl_append, HS'.out]; rfl
   have HNX := hid_of hnext
   obtain ⟨r, p, gl, lc, gr, rc, hr, hp, hlv, hr1, hgl, hgr, cl, cr, hir, hjr⟩ := h.ptrL (i := k) (j := q) (by rw [hlk]; exact HLS.out) hl
   subst hlv
   have hla := (h.lat k r ls hr (by rw [hlk]; exact HLS.out)).2.2 q p l hp hl
   have b7 : wr.cell? ⟨B, 7, none⟩ = some (.slice (some ⟨gl, 0, none⟩) rows.length lc) := h.box.cell (o := 7) rfl
   have i1 : (0 : Int) <= (k : Int) := by omega
   have i2 : (k : Int) < (rows.length : Int) := by omega
   have j1 : (0 : Int) <= (q : Int) := by omega
   have j2 : (q : Int) < (r.2.length : Int) := by omega
   have j3 : (q : Int) < (ls.length : Int) := by omega
   have hkn := HNN.out.known ls (List.mem_of_getElem? HLS.out) l (List.mem_of_getElem? hl)
   by_cases hopen : l.known < (l.all.length : Int)
   ·obtain ⟨z, hz⟩ := Int.eq_ofNat_of_zero_le hkn
    obtain ⟨m, hmz⟩ : ∃ m, l.all[z]? = some m := ⟨_, List.getElem?_eq_getElem (by omega)⟩
    have HAG : Hid (againS s' l = wayS s' m) := by show _ = _; unfold againS; rw [if_pos hopen, hz]; simp [hmz]
    obtain ⟨ga, ac, kv', hqb, hga, hcm⟩ := hla.thing hmz
    have p1 : wr.cell? ⟨p, 1, none⟩ = some (.int .i64 (z : Int)) := by rw [<- hz]; exact hqb.cell (o := 1) rfl
    have p0 : wr.cell? ⟨p, 0, none⟩ = some (.slice (some ⟨ga, 0, none⟩) l.all.length ac) := hqb.cell (o := 0) rfl
    have z1 : (z : Int) < (l.all.length : Int) := by omega
    have z2 : (0 : Int) <= (z : Int) := by omega
    have m0 : wr.cell? ⟨ga, z * 15, none⟩ = some (.int .i64 m.src) := hcm 0 _ rfl
    have m1 := hcm 1 _ rfl
    have m2 := hcm 2 _ rfl
    have m3 := hcm 3 _ rfl
    have m4 := hcm 4 _ rfl
    have m5 := hcm 5 _ rfl
    have m6 := hcm 6 _ rfl
    have m7 := hcm 7 _ rfl
    have m8 := hcm 8 _ rfl
    have m9 := hcm 9 _ rfl
    have m10 := hcm 10 _ rfl
    have m11 := hcm 11 _ rfl
    have m12 := hcm 12 _ rfl
    have m13 := hcm 13 _ rfl
    have m14 := hcm 14 _ rfl
    have HO : Hid (∀ U, Below wr.heap.size wr U -> Calls Tryz.prog 98 #[.pointer (some ⟨B, 0, none⟩), .agg (msgCells m)] U fun e w' => ∃ v, e = .returned v /\ (v = .tuple #[] /\ ∃ part2 yv2, RefAtO part2 w' B (wayS s' m) kv wv (.slice (some ⟨gl, 0, none⟩) rows.length lc) yv2 vv av ps rows /\ Moved part' part2 wr w')) := fun U hU => by
     obtain ⟨h9, hm9⟩ := h.later hU
     refine (ref_put_o m h9 (by omega)).mono ?_
     rintro e w' ⟨rfl, part2, yv2, h2, hm2⟩
     exact ⟨_, rfl, rfl, part2, yv2, h2, hm9.trans hm2⟩
    clear h hla hcm hz hopen hkn hqb
    clear hs' hnext
    go_upto_region 8 with fail
    go_quiet (fail)
    go_upto_region 9 with fail
    go_region_law (refine step_call2 (by rfl) 98 _ _ _ (by rfl) (.pointer (some ⟨B, 0, none⟩)) (.agg (msgCells m)) (by rfl) (by rfl) (enters_of Tryz.func98 (by kernel_rfl) rfl) (HO.out _ (by first | exact (belowDrewN (Below.refl _ _) _).drew | exact belowDrewN (Below.refl _ _) _)) ?_; rintro v9 w9 ⟨rfl, part2, yv2, h2, hm2⟩)
    all_goals
     go_wp2_with fail
     go_roundw
     case rel => exact ⟨q + 1, part2, yv2, by go_num, by omega, by rw [HNX.out, HAG.out]; exact h2, HM.out.trans hm2⟩
     case measure => simp [intOf]; omega
   ·have HAG : Hid (againS s' l = s') := by show _ = _; unfold againS; rw [if_neg hopen]
    obtain ⟨av', kv', hqb, -, har, -⟩ := hla
    obtain ⟨aa, ac, haf⟩ := row_form har.1
    subst haf
    have p1 : wr.cell? ⟨p, 1, none⟩ = some (.int .i64 l.known) := hqb.cell (o := 1) rfl
    have p0 : wr.cell? ⟨p, 0, none⟩ = some (.slice aa l.all.length ac) := hqb.cell (o := 0) rfl
    have H2 := hid_of h
    clear h hqb har hs' hnext hkn
    go_upto_region 8 with fail
    go_quiet (fail)
    go_wp2_with fail
    obtain ⟨h9, hm9⟩ := H2.out.later (belowDrewN (Below.refl _ wr) nq)
    go_roundw
    case rel => exact ⟨q + 1, _, yv', by go_num, by omega, by rw [HNX.out, HAG.out]; exact h9, HM.out.trans hm9⟩
    case measure => simp [intOf]; omega
  ·have hqe : q = ls.length := by omega
   have H2 := hid_of h
   have HQ := hid_of hqe
   have j3 : ¬ (q : Int) < (ls.length : Int) := by omega
   clear h hs' hqe
   go_wp2_with fail
   go_ret
   rw [HS.out]
   refine RefGives.of (s' := s') ?_ H2.out HM.out HF.out
   rw [<- HS'.out, HQ.out, List.take_length]
set_option maxHeartbeats 8000000 in
set_option maxRecDepth 100000 in
theorem ref_work_busy (F : Nat -> Prop) (B N : Nat) (s : RunS) (w : World) (hr : RefOK F w B s) (hf : Fits s) (hs : Shaped s) (hN : Small N s) (hN' : N <= 90000000) (k : Nat) (hk0 : k ≠ 0) (x : WorkerS) (hx : s.W[k]? = some x) (L : List TaskS) (t : TaskS) (hxt : x.tasks = L ++ [t]) (hw : workerE s (k : Int) = 0) :
  Calls Tryz.prog 48 #[.pointer (some ⟨B, 0, none⟩), .int .i64 (k : Int)] w (RefGives F w B (workS s (k : Int))) := by
 have HE : Hid (Calls Tryz.prog 84 #[.pointer (some ⟨B, 0, none⟩), .int .i64 (k : Int)] w fun e w' => e = .returned (.int .i64 0) /\ w = w') := by
  have h0 := ref_worker_calls F B s k w hr
  rw [hw] at h0
  exact h0.mono fun e w' h => ⟨h.1, h.2.symm⟩
 obtain ⟨iT, hiT, hzT0, hzT1, hzT2⟩ := info_parts infoTask
 obtain ⟨part, hF, hat⟩ := hr
 obtain ⟨kv, wv, lv, yv, vv, av, ps, rows, h⟩ := hat.opened
 have hin := workerE_in hw
 have hfive := hs.five
 obtain ⟨p, gw, wc, hp, hwv, hgw, cw, hip, -⟩ := h.ptrW (i := k) (x := x) hx
 subst hwv
 obtain ⟨tv, hpb, hpp, htr⟩ := h.wat k p x hp hx
 have hfew : (x.tasks.length : Int) <= 20 := by have h1 := hf.few x (List.mem_of_getElem? hx); have := hf.rmax; omega
 have hgd := hf.good x (List.mem_of_getElem? hx) t (by rw [hxt]; simp)
 have hGd : Good s.ks t := hgd.1
 have h12 : t.arg <= 12 := hgd.2
 have hprog := hf.prog
 obtain ⟨gt, tc, htf, -, hgt⟩ := World.ownsRow.form htr.1 (by rw [hxt]; simp)
 have HTR := hid_of htr
 obtain ⟨ka, kc, hkf, -⟩ := id h.kinds
 subst htf hkf
 have htn : x.tasks.length = L.length + 1 := by rw [hxt]; simp
 have HTR' : Hid (w.ownsRow 0 76 3 (.slice (some ⟨gt, 0, none⟩) (L.length + 1) tc) (L.length + 1) (L.flatMap taskEnc ++ taskEnc t)) := by
  have h9 := htr.1
  rw [htn, hxt, List.flatMap_append] at h9
  show w.ownsRow _ _ _ _ _ _
  simpa using h9
 have hcell : ∀ j u, (taskEnc t)[j]? = some u -> w.cell? ⟨gt, L.length * 3 + j, none⟩ = some u := fun j u hj => by
  have h1 := HTR'.out.cells (g := gt) rfl (L.length * 3 + j) u (by
   have hfl : (L.flatMap taskEnc).length = L.length * 3 := flat_length (sz := 3) (enc := taskEnc) (fun _ => rfl) L
   rw [List.getElem?_append_right (by omega), hfl, show L.length * 3 + j - L.length * 3 = j from by omega]
   exact hj)
  rwa [addr_add] at h1
 have e0 : w.cell? ⟨gt, L.length * 3, none⟩ = some (.string t.id) := hcell 0 _ rfl
 have e1 : w.cell? ⟨gt, L.length * 3 + 1, none⟩ = some (.int .i64 t.kind) := hcell 1 _ rfl
 have e2 : w.cell? ⟨gt, L.length * 3 + 2, none⟩ = some (.int .i64 t.arg) := hcell 2 _ rfl
 have t0' : w.cell? ⟨p, 0, none⟩ = some (.slice (some ⟨gt, 0, none⟩) (L.length + 1) tc) := by rw [<- htn]; exact hpb.cell (o := 0) rfl
 have b1 : w.cell? ⟨B, 1, none⟩ = some (.int .i64 s.room) := h.box.cell (o := 1) rfl
 have b3 : w.cell? ⟨B, 3, none⟩ = some (.slice ka s.ks.length kc) := h.box.cell (o := 3) rfl
 have b4 : w.cell? ⟨B, 4, none⟩ = some (.int .i64 s.kind) := h.box.cell (o := 4) rfl
 have b5 : w.cell? ⟨B, 5, none⟩ = some (.int .i64 s.arg) := h.box.cell (o := 5) rfl
 have b6 : w.cell? ⟨B, 6, none⟩ = some (.slice (some ⟨gw, 0, none⟩) ps.length wc) := h.box.cell (o := 6) rfl
 have hL20 : L.length <= 19 := by omega
 have hch3 : (children s.ks t).length <= 3 := children_length hprog t
 have HKS := hid_of h.kinds
 have hw1 : IntKind.i64.wrap (((L.length + 1 : Nat) : Int) - 1) = (L.length : Int) := by rw [IntWalk.i64_in _ (by omega)]; omega
 have hw2 : (((L.length + 1 : Nat) : Int) - 1) = (L.length : Int) := by omega
 have j1 : (0 : Int) <= (L.length : Int) := by omega
 have j2 : (L.length : Int) < ((L.length + 1 : Nat) : Int) := by omega
 have i1 : (0 : Int) <= (k : Int) := by omega
 have i2 : (k : Int) < (ps.length : Int) := by omega
 have ik : ((k : Int) == 0) = false := by rw [beq_eq_false_iff_ne]; omega
 have hk5 : k < 5 := by omega
 have hbl := h.box.lt
 have HH := hid_of h
 have HF := hid_of hF
 have HPB := hid_of hpb
 have HXT := hid_of hxt
 have HX := hid_of hx
 have HWE := hid_of hw
 have HHS := hid_of hs
 have HNN := hid_of hN
 have HP := hid_of hp
 have hv0 : (0 : Int) < s.workers := by omega
 have hkw : (k : Int) < s.workers := hin.2
 obtain ⟨res, hres⟩ : ∃ res, workS s (k : Int) = res := ⟨_, rfl⟩
 have HRES : Hid (workS s (k : Int) = res) := hres
 rw [hres]
 clear hres h hat hF hpb htr hcell hxt hx hw hgd hf hs hN hp hin
 go_enter Tryz.func48, Tryz.ntmps48
 go_upto_region 9 with (go_at_call 84; refine HE.out.mono ?_; rintro e w1 ⟨rfl, rfl⟩)
 obtain ⟨W1, hW1⟩ : ∃ W1, w.alloc (Obj.cells #[.string t.id, .int .i64 t.kind, .int .i64 t.arg] 76) = W1 := ⟨_, rfl⟩
 have hb1 : Below w.heap.size w W1 := by rw [<- hW1]; exact (Below.refl _ _).alloc (Nat.le_refl _) _
 have HT1 : Hid (BoxAt W1 w.heap.size 76 #[.string t.id, .int .i64 t.kind, .int .i64 t.arg]) := by rw [<- hW1]; exact BoxAt.new w _ _
 have SZ1 : Hid (W1.heap.size = w.heap.size + 1) := by show _ = _; rw [<- hW1]; simp
 rw [hW1]
 clear hW1
 have HB1 := hid_of hb1
 have HKU : Hid (∀ U, Below w.heap.size w U -> KindsAt (fun b => part b = 6 /\ b < w.heap.size) U (.slice ka s.ks.length kc) s.ks) := fun U hU => HKS.out.below.kept (Kept.of_below (X := fun b => w.heap.size <= b) hU (fun _ _ h => h)) (fun b h => by omega)
 have HCHI : Hid (∀ U, Below W1.heap.size W1 U -> Calls Tryz.prog 85 #[.agg #[.slice ka s.ks.length kc, .int .i64 s.kind, .int .i64 s.arg], .agg #[.string t.id, .int .i64 t.kind, .int .i64 t.arg]] U fun e w' => ∃ v, e = .returned v /\ (w'.ownsRow W1.heap.size 76 3 v (children s.ks t).length ((children s.ks t).flatMap taskEnc) /\ Below W1.heap.size W1 w')) := fun U hU => by
  refine (ref_children_calls _ ka kc s.kind s.arg s.ks t U (HKU.out U (hb1.trans (hU.mono (by have := SZ1.out; omega)))) hprog hGd).mono ?_
  rintro e w' ⟨v, rfl, h1, h2, h3⟩
  exact ⟨v, rfl, row_kept h1 (Kept.refl (fun _ => False) _) (fun _ _ h => h) hU.size, hU.trans (h3.mono hU.size)⟩
 have d3 := (hb1.cell (p := ⟨B, 3, none⟩) hbl).trans b3
 have d4 := (hb1.cell (p := ⟨B, 4, none⟩) hbl).trans b4
 have d5 := (hb1.cell (p := ⟨B, 5, none⟩) hbl).trans b5
 have x0 := HT1.out.cell (o := 0) rfl
 have x1 := HT1.out.cell (o := 1) rfl
 have x2 := HT1.out.cell (o := 2) rfl
 clear b3 b4 b5 hb1
 go_cut [9] (fun cv wx => wx.ownsRow W1.heap.size 76 3 cv (children s.ks t).length ((children s.ks t).flatMap taskEnc) /\ Below W1.heap.size W1 wx)
 case first =>
  go_region_law (refine step_call2 (by rfl) 85 _ _ _ (by rfl) (.agg #[.slice ka s.ks.length kc, .int .i64 s.kind, .int .i64 s.arg]) (.agg #[.string t.id, .int .i64 t.kind, .int .i64 t.arg]) (by rfl) (by rfl) (enters_of Tryz.func85 (by kernel_rfl) rfl) (HCHI.out _ (by first | assumption | exact Below.refl _ _ | exact (Below.refl _ _).drew | exact Below.drew (by assumption))) ?_; rintro v9 w9 ⟨hr9, hb9⟩)
  all_goals
   go_wp2_with fail
   go_meet
   case rel => exact ⟨hr9, hb9⟩
 case rest =>
  obtain ⟨hcv, hb2⟩ := hcut
  rename World => w2
  have HCV := hid_of hcv
  have HB2 := hid_of hb2
  have sz2 := hb2.size
  obtain ⟨ca, cc, hcf⟩ := row_form hcv
  subst hcf
  have hbw2 : Below w.heap.size w w2 := HB1.out.trans (hb2.mono (by have := SZ1.out; omega))
  have HBW2 := hid_of hbw2
  have r1 := (hbw2.cell (p := ⟨B, 1, none⟩) hbl).trans b1
  clear d3 d4 d5 x0 x1 x2 hcv hb2 b1
  obtain ⟨c, hc⟩ : ∃ c, (children s.ks t).length = c := ⟨_, rfl⟩
  have HCL : Hid ((children s.ks t).length = c) := hc
  rw [hc] at hch3 HCV
  rw [hc]
  clear hc
  have hwa : IntKind.i64.wrap ((L.length : Int) + (c : Int)) = (L.length : Int) + (c : Int) := IntWalk.i64_in _ (by omega)
  by_cases hov : s.room < (L.length : Int) + (c : Int)
  ·have HS : Hid (res = ({ s with over := true }, 6)) := by
    show res = _
    rw [<- HRES.out]
    simp only [workS, HWE.out, ne_eq, not_true_eq_false, if_false, Int.toNat_natCast, HX.out, HXT.out, List.getLast?_append, List.getLast?_singleton, Option.some_or, HCL.out, List.length_append, List.length_singleton]
    rw [if_pos (by omega)]
   have hb9 := HH.out.box.below HBW2.out hbl
   have f13 := hb9.frozen 13
   have c13 := hb9.cell (o := 13) rfl
   have HB9 := hid_of hb9
   clear hb9
   go_wp2_with fail
   go_ret
   have k2 : Kept (· = B) w (w2.setCell ⟨B, 13, none⟩ (.bool true)) := (Kept.of_below HBW2.out (X := (· = B)) (fun b h1 h2 => by omega)).andThen ((Kept.refl (· = B) w2).setCell (.inl (by rfl)) _) (fun b _ h => h)
   obtain ⟨h5, hm5⟩ := HH.out.flags (ar := s.around) (ov := true) (dn := s.done) k2 (HB9.out.setAt 13 _)
   rw [HS.out]
   exact RefGives.of rfl h5 hm5 HF.out
  ·have hno : ¬ s.room < (L.length : Int) + (c : Int) := hov
   have HPW2 : Hid (BoxAt w2 p 142 (workerCells (.slice (some ⟨gt, 0, none⟩) (L.length + 1) tc) x)) := by
    have := HPB.out
    rw [htn] at this
    exact this.below HBW2.out this.lt
   have p0 := HPW2.out.cell (o := 0) rfl
   have f0 := HPW2.out.frozen 0
   have HNW : Hid (∀ j u, (L.flatMap taskEnc)[j]? = some u -> ∃ b, (some ⟨gt, 0, none⟩ : Option Addr) = some b /\ w2.cell? (b.add j) = some u) := fun j u hj => by
    have h1 := HTR'.out.cells (g := gt) rfl j u (by rw [List.getElem?_append_left (List.getElem?_eq_some_iff.1 hj).1]; exact hj)
    rw [addr_add] at h1
    refine ⟨_, rfl, ?_⟩
    rw [addr_add]
    exact (HBW2.out.cell (p := ⟨gt, j, none⟩) hgt).trans h1
   have HFL : Hid ((L.flatMap taskEnc).length = L.length * 3) := flat_length (sz := 3) (enc := taskEnc) (fun _ => rfl) L
   have HFC : Hid (((children s.ks t).flatMap taskEnc).length = c * 3) := by show _ = _; rw [<- HCL.out]; exact flat_length (sz := 3) (enc := taskEnc) (fun _ => rfl) _
   have j3 : (L.length : Int) <= (tc : Int) := by
    rcases HTR'.out.2 with ⟨h0, _⟩ | ⟨g', cap', cur, h0, _, _, h1, _⟩
    ·cases h0
    ·cases h0; omega
   have j4 : L.length <= tc := by omega
   go_upto_region 15 with (at_builtin; refine wpList_append_any rfl _ _ _ rfl w2.heap.size 76 iT _ 3 32 Tryz.underlying52 hiT hzT0 hzT1 hzT2 rfl (by omega) (.slice none 0 0) 0 [] rfl (World.ownsRow_nil _ _ _ _) (some ⟨gt, 0, none⟩) L.length tc (L.flatMap taskEnc) rfl HFL.out HNW.out (flat_one taskEnc_one _) (by unfold maxLen; omega) (by omega) (Nat.le_refl _) ?_; intro v3 w3 hown3 hgrow3; rw [Nat.zero_add, List.nil_append] at hown3; obtain ⟨a3, c3, rfl⟩ := row_form hown3)
   have HS : Hid (res = (sendS { s with W := s.W.set k { x with tasks := L ++ children s.ks t } } { msg0 with src := k, dst := 0, kind := 4, v := (t.id, valueOf s.ks t) }, 0)) := by
    show res = _
    rw [<- HRES.out]
    simp only [workS, HWE.out, ne_eq, not_true_eq_false, if_false, Int.toNat_natCast, HX.out, HXT.out, List.getLast?_append, List.getLast?_singleton, Option.some_or, HCL.out, List.length_append, List.length_singleton, List.dropLast_concat]
    rw [if_neg (by omega), if_neg (by omega)]
   have k23 : Kept (fun _ => False) w2 w3 := Kept.grown hgrow3 (fun r e => by cases e)
   have HK23 := hid_of k23
   have sz3 := k23.size
   have hbw3 : Below w.heap.size w w3 := HBW2.out.trans (k23.below (by have := HBW2.out.size; omega) (fun _ h => h.elim))
   have HBW3 := hid_of hbw3
   have HOWN3 := hid_of hown3
   have HPW3 : Hid (BoxAt w3 p 142 (workerCells (.slice (some ⟨gt, 0, none⟩) (L.length + 1) tc) x)) := HPW2.out.kept k23 (fun h => h)
   have HCV3 : Hid (w3.ownsRow W1.heap.size 76 3 (.slice ca c cc) c ((children s.ks t).flatMap taskEnc)) := row_kept HCV.out k23 (fun _ _ h => h) (Nat.le_refl _)
   have HNC : Hid (∀ j u, ((children s.ks t).flatMap taskEnc)[j]? = some u -> ∃ b, ca = some b /\ w3.cell? (b.add j) = some u) := fun j u hj => by
    obtain ⟨a9, c9, h9, hc9⟩ := row_slice HCV3.out
    cases h9
    obtain ⟨g, h1, h2, h3, h4⟩ := hc9 j u hj
    exact ⟨_, h1, by rw [addr_add]; exact h4⟩
   have hsW : w.heap.size <= w2.heap.size := HBW2.out.size
   clear p0 f0 hgrow3 hown3 k23 hbw3 r1
   go_upto_region 16 with (at_builtin; refine wpList_append_any rfl _ _ _ rfl w2.heap.size 76 iT _ 3 32 Tryz.underlying52 hiT hzT0 hzT1 hzT2 rfl (by omega) (.slice a3 L.length c3) L.length (L.flatMap taskEnc) rfl HOWN3.out ca c cc ((children s.ks t).flatMap taskEnc) rfl HFC.out HNC.out (flat_one taskEnc_one _) (by unfold maxLen; omega) (by omega) (by omega) ?_; intro v4 w4 hown4 hgrow4; obtain ⟨a4, c4, rfl⟩ := row_form hown4; have hpw4 : BoxAt w4 p 142 (workerCells (.slice (some ⟨gt, 0, none⟩) (L.length + 1) tc) x) := (hgrow4.block p HPW3.out.lt (fun e => row_ne HOWN3.out HPW3.out (by decide) e.symm)).trans HPW3.out; have p0 := hpw4.cell (o := 0) rfl; have f0 := hpw4.frozen 0)
   obtain ⟨W5, hW5⟩ : ∃ W5, w4.setCell ⟨p, 0, none⟩ (.slice a4 (L.length + c) c4) = W5 := ⟨_, rfl⟩
   have HPW5 : Hid (BoxAt W5 p 142 (workerCells (.slice a4 (L.length + c) c4) { x with tasks := L ++ children s.ks t })) := by rw [<- hW5]; exact hpw4.setAt 0 _
   have k34 : Kept (fun b => w2.heap.size <= b) w3 w4 := Kept.grown hgrow4 (fun r e => (HOWN3.out.lt r e).1)
   have k45 : Kept (· = p) w4 W5 := by rw [<- hW5]; exact (Kept.refl _ _).setCell (.inl (by rfl)) _
   have HROW5 : Hid (W5.ownsRow w2.heap.size 76 3 (.slice a4 (L.length + c) c4) (L.length + c) (L.flatMap taskEnc ++ (children s.ks t).flatMap taskEnc)) := row_kept hown4 k45 (fun g e h => by subst h; exact row_ne hown4 hpw4 (by decide) e) (Nat.le_refl _)
   have k5 : Kept (· = p) w W5 := ((Kept.of_below HBW3.out (X := (· = p)) (fun b h1 h2 => by omega)).andThen k34 (fun b h1 h2 => by omega)).andThen k45 (fun b _ h => h)
   have HT5 : Hid (BoxAt W5 w.heap.size 76 #[.string t.id, .int .i64 t.kind, .int .i64 t.arg]) := by
    have h2 : BoxAt w2 w.heap.size 76 #[.string t.id, .int .i64 t.kind, .int .i64 t.arg] := HT1.out.below HB2.out (by have := SZ1.out; omega)
    have h3 := h2.kept HK23.out (fun h => h)
    have h4 := h3.kept k34 (by have := h2.lt; omega)
    exact h4.kept k45 (by have := HPB.out.lt; omega)
   obtain ⟨h5, hm5⟩ := HH.out.reworker (x' := { x with tasks := L ++ children s.ks t }) (by omega) HP.out (k5.mono (fun g _ e => by rw [e]; exact hpp)) ⟨_, HPW5.out, .inl ⟨hpp, HPB.out.lt⟩, by
    show World.ownsRow _ _ _ _ _ (L ++ children s.ks t).length _
    rw [List.flatMap_append, List.length_append, HCL.out]
    exact ownsRow_base HROW5.out (Nat.zero_le _), fun g e => .inr (by have := (HROW5.out.lt g e).1; omega)⟩
   have hs5 : Shaped { s with W := s.W.set k { x with tasks := L ++ children s.ks t } } := ⟨by simpa using HHS.out.len, HHS.out.two, HHS.out.five, by simpa using HHS.out.llen, fun ls hl => by simpa using HHS.out.lrow ls hl, HHS.out.way⟩
   have hN5 : Small N { s with W := s.W.set k { x with tasks := L ++ children s.ks t } } := ⟨HNN.out.all, HNN.out.known, HNN.out.came, HNN.out.kept, fun y hy => by
    rcases List.mem_or_eq_of_mem_set hy with h' | rfl
    ·exact HNN.out.sent y h'
    ·exact HNN.out.sent x (List.mem_of_getElem? HX.out), fun y hy => by
    rcases List.mem_or_eq_of_mem_set hy with h' | rfl
    ·exact HNN.out.got y h'
    ·exact HNN.out.got x (List.mem_of_getElem? HX.out)⟩
   rw [hW5]
   clear hW5 hown4 hgrow4 hpw4 p0 f0 k34 k45
   have HVAL : Hid (∀ U, Below W5.heap.size W5 U -> Calls Tryz.prog 87 #[.agg #[.slice ka s.ks.length kc, .int .i64 s.kind, .int .i64 s.arg], .agg #[.string t.id, .int .i64 t.kind, .int .i64 t.arg]] U fun e w' => ∃ v, e = .returned v /\ (v = .agg #[.string t.id, .int .i64 (valueOf s.ks t)] /\ Below W5.heap.size W5 w')) := fun U hU => by
    have hkU : KindsAt (fun b => part b = 6 /\ b < w.heap.size) U (.slice ka s.ks.length kc) s.ks := (HKS.out.below.kept k5 (fun b h h' => by subst h'; omega)).kept (Kept.of_below (X := fun b => W5.heap.size <= b) hU (fun _ _ h => h)) (fun b h => by have := k5.size; omega)
    exact (ref_value_calls _ s.kind s.arg s.ks t _ U hkU hprog hGd.1 hGd.2.1 hGd.2.2.1 h12).mono fun e w' h => ⟨_, h.1, rfl, hU.trans (h.2.mono hU.size)⟩
   have HSND : Hid (∀ U, Below W5.heap.size W5 U -> Calls Tryz.prog 88 #[.pointer (some ⟨B, 0, none⟩), .agg (msgCells { msg0 with src := k, dst := 0, kind := 4, v := (t.id, valueOf s.ks t) })] U fun e w' => ∃ v, e = .returned v /\ (v = .tuple #[] /\ ∃ part2 yv2, RefAtO part2 w' B (sendS { s with W := s.W.set k { x with tasks := L ++ children s.ks t } } { msg0 with src := k, dst := 0, kind := 4, v := (t.id, valueOf s.ks t) }) (.slice ka s.ks.length kc) (.slice (some ⟨gw, 0, none⟩) ps.length wc) lv yv2 vv av ps rows /\ Moved (ext w part (10 + k)) part2 W5 w')) := fun U hU => by
    obtain ⟨h9, hm9⟩ := h5.later hU
    refine (ref_send_s { msg0 with src := k, dst := 0, kind := 4, v := (t.id, valueOf s.ks t) } h9 hs5 hN5 (by omega) ⟨i1, hkw⟩ ⟨Int.le_refl _, hv0⟩).mono ?_
    rintro e w' ⟨rfl, part2, yv2, h2, hm2⟩
    exact ⟨_, rfl, rfl, part2, yv2, h2, hm9.trans hm2⟩
   have d3 := h5.box.cell (o := 3) rfl
   have d4 := h5.box.cell (o := 4) rfl
   have d5 := h5.box.cell (o := 5) rfl
   have x0 := HT5.out.cell (o := 0) rfl
   have x1 := HT5.out.cell (o := 1) rfl
   have x2 := HT5.out.cell (o := 2) rfl
   have HM5 := hid_of hm5
   clear h5 hm5 k5
   go_upto_region 18 with fail
   go_region_law (first
    | (refine step_call2 (by rfl) 87 _ _ _ (by rfl) (.agg #[.slice ka s.ks.length kc, .int .i64 s.kind, .int .i64 s.arg]) (.agg #[.string t.id, .int .i64 t.kind, .int .i64 t.arg]) (by rfl) (by rfl) (enters_of Tryz.func87 (by kernel_rfl) rfl) (HVAL.out _ (by first | assumption | exact Below.refl _ _ | exact (Below.refl _ _).drew | exact Below.drew (by assumption))) ?_; rintro v9 w9 ⟨rfl, hb9⟩)
    | (refine step_call2 (by rfl) 88 _ _ _ (by rfl) (.pointer (some ⟨B, 0, none⟩)) (.agg (msgCells { msg0 with src := k, dst := 0, kind := 4, v := (t.id, valueOf s.ks t) })) (by rfl) (by rfl) (enters_of Tryz.func88 (by kernel_rfl) rfl) (HSND.out _ (by first | assumption | exact Below.refl _ _ | exact (Below.refl _ _).drew | exact Below.drew (by assumption))) ?_; rintro v8 w8 ⟨rfl, part2, yv2, h2, hm2⟩))
   all_goals
    go_wp2_with fail
    go_ret
    rw [HS.out]
    exact RefGives.of rfl h2 (HM5.out.trans hm2) HF.out
theorem ref_work_err (F : Nat -> Prop) (B : Nat) (s : RunS) (i : Int) (w : World) (hr : RefOK F w B s) (hw : ¬ workerE s i = 0) :
  Calls Tryz.prog 48 #[.pointer (some ⟨B, 0, none⟩), .int .i64 i] w (RefGives F w B (workS s i)) := by
 have HE : Hid (Calls Tryz.prog 84 #[.pointer (some ⟨B, 0, none⟩), .int .i64 i] w fun e w' => e = .returned (.int .i64 (workerE s i)) /\ w = w') := (ref_worker_calls F B s i w hr).mono fun e w' h => ⟨h.1, h.2.symm⟩
 have HR := hid_of hr
 have HS : Hid (workS s i = (s, workerE s i)) := by show _ = _; simp [workS, hw]
 obtain ⟨e1, he1⟩ : ∃ e1, workerE s i = e1 := ⟨_, rfl⟩
 rw [he1] at HE hw HS
 have hb : (e1 == 0) = false := by rw [beq_eq_false_iff_ne]; exact hw
 clear he1 hw hr
 go_enter Tryz.func48, Tryz.ntmps48
 go_wp2_with (go_at_call 84; refine HE.out.mono ?_; rintro e w1 ⟨rfl, rfl⟩)
 go_ret
 rw [HS.out]
 exact RefGives.same HR.out _
theorem ref_work_all (F : Nat -> Prop) (B N : Nat) (s : RunS) (i : Int) (w : World) (hr : RefOK F w B s) (hf : Fits s) (hs : Shaped s) (hN : Small N s) (hN' : N <= 90000000) (hv : s.values.length <= 900000) :
  Calls Tryz.prog 48 #[.pointer (some ⟨B, 0, none⟩), .int .i64 i] w (RefGives F w B (workS s i)) := by
 by_cases hi : i = 0 \/ (tasksS s i).1 = []
 ·exact ref_work_calls F B s i w hr hf hv hi
 by_cases hw : workerE s i = 0
 ·obtain ⟨h0, h1⟩ := workerE_in hw
  obtain ⟨k, x, rfl, hx, -⟩ := hs.worker h0 h1
  have ht : (tasksS s (k : Int)).1 = x.tasks := by
   unfold tasksS
   rw [if_neg (by omega)]
   simp [hx]
  rw [ht] at hi
  rcases List.eq_nil_or_concat x.tasks with h | ⟨L, t, h⟩
  ·exact absurd (.inr h) hi
  ·exact ref_work_busy F B N s w hr hf hs hN hN' k (by intro e; exact hi (.inl (by omega))) x hx L t (by rw [h, List.concat_eq_append]) hw
 ·exact ref_work_err F B s i w hr hw
def notedS (s : RunS) (sent came : Int) (idle : Bool) : RunS :=
 match s.answers.getLast? with
 | none => s
 | some a => { s with answers := s.answers.dropLast ++ [⟨a.many + 1, a.sent + sent, a.came + came, a.idle && idle⟩] }
def cameS (s : RunS) (m : MsgS) : RunS :=
 let i := m.dst.toNat
 let x := s.W[i]?.getD worker0
 if m.kind = 1 then
  match x.tasks with
  | [] => sendS s { msg0 with src := m.dst, dst := m.src, kind := 3 }
  | t :: r => sendS { s with W := s.W.set i { x with tasks := r } } { msg0 with src := m.dst, dst := m.src, kind := 2, t := t }
 else if m.kind = 2 then { s with W := s.W.set i { x with came := x.came + 1, black := true, asked := false, tasks := x.tasks ++ [m.t] } }
 else if m.kind = 3 then { s with W := s.W.set i { x with asked := false } }
 else if m.kind = 4 then { s with W := s.W.set i { x with came := x.came + 1, black := true }, values := putS s.values m.v }
 else if m.kind = 5 then { s with W := s.W.set i { x with has := true, token := m }, around := s.around || m.dst == 0 }
 else if m.kind = 6 then sendS s { msg0 with src := m.dst, dst := 0, kind := 7, round := m.round, sent := x.sent, came := x.came, idle := x.tasks.isEmpty }
 else if m.kind = 7 then notedS s m.sent m.came m.idle
 else s
theorem RefAtO.recells {part : Nat -> Nat} {w w' : World} {B : Nat} {s : RunS} {kv wv lv yv vv av : Value} {ps : List Nat} {rows : List (Value × List Nat)} {i p : Nat} {x x' : WorkerS} {tv : Value} (h : RefAtO part w B s kv wv lv yv vv av ps rows) (hi : i < 90) (hp : ps[i]? = some p) (hpb : BoxAt w p 142 (workerCells tv x)) (hpp : part p = 10 + i) (htr : RowIn (fun b => part b = 10 + i) 76 3 taskEnc w tv x.tasks)
  (k : Kept (· = p) w w') (hb : BoxAt w' p 142 (workerCells tv x')) (ht : x'.tasks = x.tasks) :
  RefAtO (ext w part (10 + i)) w' B { s with W := s.W.set i x' } kv wv lv yv vv av ps rows /\ Moved part (ext w part (10 + i)) w w' :=
 h.reworker hi hp (k.mono (fun g _ e => by rw [e]; exact hpp)) ⟨tv, hb, .inl ⟨hpp, hpb.lt⟩, by rw [ht]; exact row_kept htr.1 k (fun g e h => by subst h; exact row_ne htr.1 hpb (by decide) e) (Nat.le_refl _), fun g e => .inl ⟨htr.2 g e, (htr.1.lt g e).2⟩⟩
set_option maxHeartbeats 8000000 in
set_option maxRecDepth 100000 in
theorem ref_came_deny (m : MsgS) {part : Nat -> Nat} {w : World} {B : Nat} {s : RunS} {kv wv lv yv vv av : Value} {ps : List Nat} {rows : List (Value × List Nat)} (h : RefAtO part w B s kv wv lv yv vv av ps rows) (hs : Shaped s) (h1 : 0 <= m.dst /\ m.dst < s.workers) (hkd : m.kind = 3) :
  Calls Tryz.prog 101 #[.pointer (some ⟨B, 0, none⟩), .agg (msgCells m)] w fun e w' => e = .returned (.tuple #[]) /\ ∃ part' yv' vv' av', RefAtO part' w' B (cameS s m) kv wv lv yv' vv' av' ps rows /\ Moved part part' w w' := by
 obtain ⟨i, x, hi, hx, hi5⟩ := hs.worker h1.1 h1.2
 obtain ⟨p, gw, wc, hp, hwv, hgw, cw, hip, -⟩ := h.ptrW hx
 subst hwv
 obtain ⟨tv, hpb, hpp, htr⟩ := h.wat i p x hp hx
 obtain ⟨ta, tc, htf⟩ := row_form htr.1
 subst htf
 obtain ⟨Z, hZ⟩ : ∃ Z, w.alloc (Obj.cells (msgCells m) 140) = Z := ⟨_, rfl⟩
 have hbZ : Below w.heap.size w Z := by rw [<- hZ]; exact (Below.refl _ _).alloc (Nat.le_refl _) _
 have bM : BoxAt Z w.heap.size 140 (msgCells m) := by rw [<- hZ]; exact BoxAt.new w _ _
 have SZ : Hid (Z.heap.size = w.heap.size + 1) := by show _ = _; rw [<- hZ]; simp
 have bR := h.box.below hbZ h.box.lt
 have bP := hpb.below hbZ hpb.lt
 have b6 : Z.cell? ⟨B, 6, none⟩ = some (.slice (some ⟨gw, 0, none⟩) ps.length wc) := bR.cell (o := 6) rfl
 have cw' := (hbZ.cell (p := ⟨gw, i, none⟩) hgw).trans cw
 have m1 : Z.cell? ⟨w.heap.size, 1, none⟩ = some (.int .i64 (i : Int)) := by rw [<- hi]; exact bM.cell (o := 1) rfl
 have m3 : Z.cell? ⟨w.heap.size, 3, none⟩ = some (.int .i64 3) := by rw [<- hkd]; exact bM.cell (o := 3) rfl
 have i1 : (0 : Int) <= (i : Int) := by omega
 have i2 : (i : Int) < (ps.length : Int) := by omega
 have hbl := h.box.lt
 have hpl := hpb.lt
 have kZ : Kept (fun _ => False) w Z := Kept.of_below hbZ (fun k h1 h2 => by omega)
 have HS : Hid (cameS s m = { s with W := s.W.set i { x with asked := false } }) := by show _ = _; simp [cameS, hkd, hi, hx]
 have HH := hid_of h
 have HBZ := hid_of hbZ
 have HKZ := hid_of kZ
 have HBM := hid_of bM
 have HPB := hid_of hpb
 have HBP := hid_of bP
 have HTR := hid_of htr
 have HP := hid_of hp
 have HI := hid_of hi
 have p1 := bP.cell (o := 1) rfl
 have g1 := bP.frozen 1
 clear h hbZ bR cw kZ bM hpb bP htr hp hi hkd
 go_enter Tryz.func101, Tryz.ntmps101
 go_upto_region 1 with fail
 go_quiet (fail)
 go_wp2_with fail
 go_end0
 rw [HS.out]
 have k5 : Kept (· = p) w ((Z.drewN nq).setCell ⟨p, 1, none⟩ (.bool false)) := (HKZ.out.mono (fun _ _ h => h.elim)).trans ((((Kept.refl (· = p) Z).drewN nq)).setCell (.inl (by rfl)) _)
 obtain ⟨h5, hm5⟩ := HH.out.recells (x' := { x with asked := false }) (by omega) HP.out HPB.out hpp HTR.out k5 ((HBP.out.drewN nq).setAt 1 _) rfl
 exact ⟨rfl, _, _, _, _, h5, hm5⟩
set_option maxHeartbeats 8000000 in
set_option maxRecDepth 100000 in
theorem ref_came_token (m : MsgS) {part : Nat -> Nat} {w : World} {B : Nat} {s : RunS} {kv wv lv yv vv av : Value} {ps : List Nat} {rows : List (Value × List Nat)} (h : RefAtO part w B s kv wv lv yv vv av ps rows) (hs : Shaped s) (h1 : 0 <= m.dst /\ m.dst < s.workers) (hkd : m.kind = 5) :
  Calls Tryz.prog 101 #[.pointer (some ⟨B, 0, none⟩), .agg (msgCells m)] w fun e w' => e = .returned (.tuple #[]) /\ ∃ part' yv' vv' av', RefAtO part' w' B (cameS s m) kv wv lv yv' vv' av' ps rows /\ Moved part part' w w' := by
 obtain ⟨i, x, hi, hx, hi5⟩ := hs.worker h1.1 h1.2
 obtain ⟨p, gw, wc, hp, hwv, hgw, cw, hip, -⟩ := h.ptrW hx
 subst hwv
 obtain ⟨tv, hpb, hpp, htr⟩ := h.wat i p x hp hx
 obtain ⟨ta, tc, htf⟩ := row_form htr.1
 subst htf
 obtain ⟨Z, hZ⟩ : ∃ Z, w.alloc (Obj.cells (msgCells m) 140) = Z := ⟨_, rfl⟩
 have hbZ : Below w.heap.size w Z := by rw [<- hZ]; exact (Below.refl _ _).alloc (Nat.le_refl _) _
 have bM : BoxAt Z w.heap.size 140 (msgCells m) := by rw [<- hZ]; exact BoxAt.new w _ _
 have SZ : Hid (Z.heap.size = w.heap.size + 1) := by show _ = _; rw [<- hZ]; simp
 have bR := h.box.below hbZ h.box.lt
 have bP := hpb.below hbZ hpb.lt
 have b6 : Z.cell? ⟨B, 6, none⟩ = some (.slice (some ⟨gw, 0, none⟩) ps.length wc) := bR.cell (o := 6) rfl
 have cw' := (hbZ.cell (p := ⟨gw, i, none⟩) hgw).trans cw
 have m1 : Z.cell? ⟨w.heap.size, 1, none⟩ = some (.int .i64 (i : Int)) := by rw [<- hi]; exact bM.cell (o := 1) rfl
 have m3 : Z.cell? ⟨w.heap.size, 3, none⟩ = some (.int .i64 5) := by rw [<- hkd]; exact bM.cell (o := 3) rfl
 have i1 : (0 : Int) <= (i : Int) := by omega
 have i2 : (i : Int) < (ps.length : Int) := by omega
 have hbl := h.box.lt
 have hpl := hpb.lt
 have kZ : Kept (fun _ => False) w Z := Kept.of_below hbZ (fun k h1 h2 => by omega)
 have HS : Hid (cameS s m = { s with W := s.W.set i { x with has := true, token := m }, around := s.around || ((i : Int) == 0) }) := by show _ = _; simp [cameS, hkd, hi, hx]
 have HH := hid_of h
 have HBZ := hid_of hbZ
 have HKZ := hid_of kZ
 have HBM := hid_of bM
 have HPB := hid_of hpb
 have HBP := hid_of bP
 have HTR := hid_of htr
 have HP := hid_of hp
 have HI := hid_of hi
 have m0 := bM.cell (o := 0) rfl
 have m2 := bM.cell (o := 2) rfl
 have m4 := bM.cell (o := 4) rfl
 have m5 := bM.cell (o := 5) rfl
 have m6 := bM.cell (o := 6) rfl
 have m7 := bM.cell (o := 7) rfl
 have m8 := bM.cell (o := 8) rfl
 have m9 := bM.cell (o := 9) rfl
 have m10 := bM.cell (o := 10) rfl
 have m11 := bM.cell (o := 11) rfl
 have m12 := bM.cell (o := 12) rfl
 have m13 := bM.cell (o := 13) rfl
 have m14 := bM.cell (o := 14) rfl
 have q5 := bP.cell (o := 5) rfl
 have f5 := bP.frozen
 have q6 := bP.cell (o := 6) rfl
 have q7 := bP.cell (o := 7) rfl
 have q8 := bP.cell (o := 8) rfl
 have q9 := bP.cell (o := 9) rfl
 have q10 := bP.cell (o := 10) rfl
 have q11 := bP.cell (o := 11) rfl
 have q12 := bP.cell (o := 12) rfl
 have q13 := bP.cell (o := 13) rfl
 have q14 := bP.cell (o := 14) rfl
 have q15 := bP.cell (o := 15) rfl
 have q16 := bP.cell (o := 16) rfl
 have q17 := bP.cell (o := 17) rfl
 have q18 := bP.cell (o := 18) rfl
 have q19 := bP.cell (o := 19) rfl
 have q20 := bP.cell (o := 20) rfl
 have HMM : Hid (({ m with dst := (i : Int), kind := 5 } : MsgS) = m) := by show _ = _; rw [<- hi, <- hkd]
 have HRB := hid_of bR
 clear h hbZ bR cw kZ bM hpb bP htr hp hi hkd
 go_enter Tryz.func101, Tryz.ntmps101
 go_upto_region 1 with fail
 go_quiet (fail)
 go_upto_region 22 with fail
 obtain ⟨W5, hW5⟩ : ∃ W5, putAll (Z.drewN nq) p 5 [.bool true, .int .i64 m.src, .int .i64 (i : Int), .int .i64 m.no, .int .i64 5, .string m.t.id, .int .i64 m.t.kind, .int .i64 m.t.arg, .string m.v.1, .int .i64 m.v.2, .bool m.black, .bool m.idle, .int .i64 m.count, .int .i64 m.round, .int .i64 m.sent, .int .i64 m.came] = W5 := ⟨_, rfl⟩
 have kP : Kept (· = p) (Z.drewN nq) W5 := by rw [<- hW5]; exact kept_putAll (X := fun x => x = p) (.inl rfl) _ _ _ (Kept.refl _ _)
 have k5 : Kept (· = p) w W5 := ((HKZ.out.mono (fun _ _ h => h.elim)).drewN nq).trans kP
 have bp5 : BoxAt W5 p 142 (workerCells (.slice ta x.tasks.length tc) { x with has := true, token := { m with dst := (i : Int), kind := 5 } }) := by
  obtain ⟨cs', h1, h2⟩ := box_setAll [.bool true, .int .i64 m.src, .int .i64 (i : Int), .int .i64 m.no, .int .i64 5, .string m.t.id, .int .i64 m.t.kind, .int .i64 m.t.arg, .string m.v.1, .int .i64 m.v.2, .bool m.black, .bool m.idle, .int .i64 m.count, .int .i64 m.round, .int .i64 m.sent, .int .i64 m.came] 5 (Z.drewN nq) _ (HBP.out.drewN nq)
  rw [hW5] at h1
  have h3 : cs' = workerCells (.slice ta x.tasks.length tc) { x with has := true, token := { m with dst := (i : Int), kind := 5 } } := by
   apply Array.toList_inj.1
   rw [h2]
   rfl
  rw [<- h3]
  exact h1
 rw [HMM.out] at bp5
 obtain ⟨h5, hm5⟩ := HH.out.recells (x' := { x with has := true, token := m }) (by omega) HP.out HPB.out hpp HTR.out k5 bp5 rfl
 have b5 : BoxAt W5 B 103 (runCells { s with W := s.W.set i { x with has := true, token := m } } kv (.slice (some ⟨gw, 0, none⟩) ps.length wc) lv yv vv av) := h5.box
 have c12 : W5.cell? ⟨B, 12, none⟩ = some (.bool s.around) := b5.cell (o := 12) rfl
 have f12 := b5.frozen 12
 have c1 : W5.cell? ⟨w.heap.size, 1, none⟩ = some (.int .i64 (i : Int)) := by rw [<- HI.out]; exact ((HBM.out.drewN nq).kept kP (by omega)).cell (o := 1) rfl
 have HH5 := hid_of h5
 have HM5 := hid_of hm5
 have HB5 := hid_of b5
 dsimp only [putAll] at hW5
 rw [hW5]
 clear hW5 kP k5 bp5 h5 hm5 b5 m0 m1 m2 m3 m4 m5 m6 m7 m8 m9 m10 m11 m12 m13 m14 q5 f5 q6 q7 q8 q9 q10 q11 q12 q13 q14 q15 q16 q17 q18 q19 q20 b6 cw'
 obtain ⟨ar, har⟩ : ∃ ar, s.around = ar := ⟨_, rfl⟩
 have HAR := hid_of har
 rw [har] at c12
 clear har
 have key : ∀ b, b = (ar || ((i : Int) == 0)) -> ∃ part' yv' vv' av', RefAtO part' (W5.setCell ⟨B, 12, none⟩ (.bool b)) B (cameS s m) kv (.slice (some ⟨gw, 0, none⟩) ps.length wc) lv yv' vv' av' ps rows /\ Moved part part' w (W5.setCell ⟨B, 12, none⟩ (.bool b)) := fun b hb => by
  have kS : Kept (· = B) W5 (W5.setCell ⟨B, 12, none⟩ (.bool b)) := (Kept.refl _ _).setCell (.inl (by rfl)) _
  obtain ⟨h6, hm6⟩ := HH5.out.flags (ar := b) (ov := s.over) (dn := s.done) kS (HB5.out.setAt 12 _)
  rw [HS.out, HAR.out, <- hb]
  exact ⟨_, _, _, _, h6, HM5.out.trans hm6⟩
 have HKEY := hid_of key
 clear key
 cases ar with
 | true =>
  go_wp2_with fail
  go_end0
  exact ⟨rfl, HKEY.out true (by simp)⟩
 | false =>
  by_cases hi0 : i = 0
  ·subst hi0
   go_wp2_with fail
   go_end0
   exact ⟨rfl, HKEY.out true (by simp)⟩
  ·have hib : ((i : Int) == 0) = false := by rw [beq_eq_false_iff_ne]; omega
   go_wp2_with fail
   go_end0
   exact ⟨rfl, HKEY.out false (by simp [hib])⟩
set_option maxHeartbeats 8000000 in
set_option maxRecDepth 100000 in
theorem ref_came_grant (m : MsgS) {N : Nat} {part : Nat -> Nat} {w : World} {B : Nat} {s : RunS} {kv wv lv yv vv av : Value} {ps : List Nat} {rows : List (Value × List Nat)} (h : RefAtO part w B s kv wv lv yv vv av ps rows) (hs : Shaped s) (hN : Small N s) (hN' : N <= 90000000) (h1 : 0 <= m.dst /\ m.dst < s.workers) (htk : ∀ x ∈ s.W, x.tasks.length <= 1000000) (hkd : m.kind = 2) :
  Calls Tryz.prog 101 #[.pointer (some ⟨B, 0, none⟩), .agg (msgCells m)] w fun e w' => e = .returned (.tuple #[]) /\ ∃ part' yv' vv' av', RefAtO part' w' B (cameS s m) kv wv lv yv' vv' av' ps rows /\ Moved part part' w w' := by
 obtain ⟨i, x, hi, hx, hi5⟩ := hs.worker h1.1 h1.2
 obtain ⟨p, gw, wc, hp, hwv, hgw, cw, hip, -⟩ := h.ptrW hx
 subst hwv
 obtain ⟨tv, hpb, hpp, htr⟩ := h.wat i p x hp hx
 obtain ⟨ta, tc, htf⟩ := row_form htr.1
 subst htf
 obtain ⟨Z, hZ⟩ : ∃ Z, w.alloc (Obj.cells (msgCells m) 140) = Z := ⟨_, rfl⟩
 have hbZ : Below w.heap.size w Z := by rw [<- hZ]; exact (Below.refl _ _).alloc (Nat.le_refl _) _
 have bM : BoxAt Z w.heap.size 140 (msgCells m) := by rw [<- hZ]; exact BoxAt.new w _ _
 have SZ : Hid (Z.heap.size = w.heap.size + 1) := by show _ = _; rw [<- hZ]; simp
 have bR := h.box.below hbZ h.box.lt
 have bP := hpb.below hbZ hpb.lt
 have b6 : Z.cell? ⟨B, 6, none⟩ = some (.slice (some ⟨gw, 0, none⟩) ps.length wc) := bR.cell (o := 6) rfl
 have cw' := (hbZ.cell (p := ⟨gw, i, none⟩) hgw).trans cw
 have m1 : Z.cell? ⟨w.heap.size, 1, none⟩ = some (.int .i64 (i : Int)) := by rw [<- hi]; exact bM.cell (o := 1) rfl
 have m3 : Z.cell? ⟨w.heap.size, 3, none⟩ = some (.int .i64 2) := by rw [<- hkd]; exact bM.cell (o := 3) rfl
 have i1 : (0 : Int) <= (i : Int) := by omega
 have i2 : (i : Int) < (ps.length : Int) := by omega
 have hbl := h.box.lt
 have hpl := hpb.lt
 have kZ : Kept (fun _ => False) w Z := Kept.of_below hbZ (fun k h1 h2 => by omega)
 have HS : Hid (cameS s m = { s with W := s.W.set i { x with came := x.came + 1, black := true, asked := false, tasks := x.tasks ++ [m.t] } }) := by show _ = _; simp [cameS, hkd, hi, hx]
 have HH := hid_of h
 have HBZ := hid_of hbZ
 have HKZ := hid_of kZ
 have HBM := hid_of bM
 have HPB := hid_of hpb
 have HBP := hid_of bP
 have HTR := hid_of htr
 have HP := hid_of hp
 have HI := hid_of hi
 obtain ⟨iT, hiT, hzT0, hzT1, hzT2⟩ := info_parts infoTask
 have q1 := bP.cell (o := 1) rfl
 have q3 := bP.cell (o := 3) rfl
 have q4 := bP.cell (o := 4) rfl
 have f5 := bP.frozen
 have hgot := hN.got x (List.mem_of_getElem? hx)
 have a1 : IntKind.i64.wrap (x.came + 1) = x.came + 1 := IntWalk.i64_in _ (by omega)
 have htl := htk x (List.mem_of_getElem? hx)
 clear hN hgot hs htk
 clear h hbZ bR cw kZ bM hpb bP htr hp hi hkd
 go_enter Tryz.func101, Tryz.ntmps101
 go_upto_region 1 with fail
 go_quiet (fail)
 go_upto_region 14 with fail
 obtain ⟨W4, hW4⟩ : ∃ W4, (((Z.drewN nq).setCell ⟨p, 3, none⟩ (.int .i64 (x.came + 1))).setCell ⟨p, 4, none⟩ (.bool true)).setCell ⟨p, 1, none⟩ (.bool false) = W4 := ⟨_, rfl⟩
 have kP : Kept (· = p) (Z.drewN nq) W4 := by rw [<- hW4]; exact (((Kept.refl _ _).setCell (.inl (by rfl)) _).setCell (.inl (by rfl)) _).setCell (.inl (by rfl)) _
 have k4 : Kept (· = p) w W4 := ((HKZ.out.mono (fun _ _ h => h.elim)).drewN nq).trans kP
 have bp4 : BoxAt W4 p 142 (workerCells (.slice ta x.tasks.length tc) { x with came := x.came + 1, black := true, asked := false }) := by rw [<- hW4]; exact (((HBP.out.drewN nq).setAt 3 _).setAt 4 _).setAt 1 _
 have bm4 : BoxAt W4 w.heap.size 140 (msgCells m) := (HBM.out.drewN nq).kept kP (by omega)
 have HRT : Hid (W4.ownsRow 0 76 3 (.slice ta x.tasks.length tc) x.tasks.length (x.tasks.flatMap taskEnc)) := row_kept HTR.out.1 k4 (fun g e h => by subst h; exact row_ne HTR.out.1 HPB.out (by decide) e) (Nat.le_refl _)
 have SZ4 : Hid (W4.heap.size = w.heap.size + 1) := by show _ = _; rw [<- hW4]; simp [SZ.out]
 have HNE : Hid ((Value.slice ta x.tasks.length tc).ownBlock ≠ some p) := row_ne HTR.out.1 HPB.out (by decide)
 have hpz : p < W4.heap.size := bp4.lt
 have HK4 := hid_of k4
 have HBP4 := hid_of bp4
 rw [hW4]
 clear hW4 kP k4 m1 m3 q1 q3 q4 f5 b6 cw'
 have p0 := bp4.cell (o := 0) rfl
 have f0 := bp4.frozen 0
 have m4 := bm4.cell (o := 4) rfl
 have m5 := bm4.cell (o := 5) rfl
 have m6 := bm4.cell (o := 6) rfl
 clear bp4 bm4
 go_region_law (refine step_append_lies _ (by rfl) _ _ _ (by rfl) 0 76 iT _ 3 32 Tryz.underlying52 hiT hzT0 hzT1 hzT2 rfl (by omega) (.slice ta x.tasks.length tc) x.tasks.length (x.tasks.flatMap taskEnc) (by rfl) ((HRT.out.alloc _).drew) ⟨W4.heap.size, 0, none⟩ 1 1 (taskEnc m.t) (by rfl) (by rfl) (World.news_of_block (cs := #[.string m.t.id, .int .i64 m.t.kind, .int .i64 m.t.arg]) (t := 76) (fr := (0, 0)) (heap_alloc_new W4 _)) (by simp [taskEnc, Value.oneCell']) (by omega) (by unfold maxLen; omega) (by omega) (by simp) (W4.heap.size + 1) (by simp) ?_; intro g cp w1 hown1 hgrow hat hlt1; have hbx : BoxAt w1 p 142 (workerCells (.slice ta x.tasks.length tc) { x with came := x.came + 1, black := true, asked := false }) := (hgrow.block p (by simp; have := SZ4.out; omega) (fun e => HNE.out e.symm)).trans (HBP4.out.alloc _); have c0 := hbx.cell (o := 0) rfl; have e0 := hbx.frozen 0)
 all_goals
  go_wp2_with fail
  go_end0
  rw [HS.out]
  have kG : Kept (fun g => part g = 10 + i) w w1 := (((HK4.out.mono (fun g _ e => by rw [e]; exact hpp)).trans (Kept.alloc _ W4 _)).drew).trans (Kept.grown hgrow (fun r e => HTR.out.2 r e))
  have kS : Kept (· = p) w1 (w1.setCell ⟨p, 0, none⟩ (.slice (some ⟨g, 0, none⟩) (x.tasks.length + 1) cp)) := (Kept.refl _ _).setCell (.inl (by rfl)) _
  obtain ⟨h5, hm5⟩ := HH.out.reworker (x' := { x with came := x.came + 1, black := true, asked := false, tasks := x.tasks ++ [m.t] }) (by omega) HP.out (kG.trans (kS.mono (fun g _ e => by rw [e]; exact hpp))) ⟨_, hbx.setAt 0 _, .inl ⟨hpp, hpl⟩, by
   show World.ownsRow _ _ _ _ _ (x.tasks ++ [m.t]).length _
   rw [List.flatMap_append, List.length_append, List.length_singleton]
   simpa using row_kept hown1 kS (fun g' e h => by subst h; exact row_ne hown1 hbx (by decide) e) (Nat.le_refl _), fun g' e => by
   obtain rfl : g = g' := by simpa [Value.ownBlock] using e
   rcases hat with h | h
   ·exact .inl ⟨HTR.out.2 g h, (HTR.out.1.lt g h).2⟩
   ·exact .inr (by have := SZ4.out; omega)⟩
  exact ⟨rfl, _, _, _, _, h5, hm5⟩
set_option maxHeartbeats 8000000 in
set_option maxRecDepth 100000 in
theorem ref_came_asks0 (m : MsgS) {N : Nat} {part : Nat -> Nat} {w : World} {B : Nat} {s : RunS} {kv wv lv yv vv av : Value} {ps : List Nat} {rows : List (Value × List Nat)} (h : RefAtO part w B s kv wv lv yv vv av ps rows) (hs : Shaped s) (hN : Small N s) (hN' : N <= 90000000) (h0 : 0 <= m.src /\ m.src < s.workers) (h1 : 0 <= m.dst /\ m.dst < s.workers) (htk : ∀ x, s.W[m.dst.toNat]? = some x -> x.tasks = []) (hkd : m.kind = 1) :
  Calls Tryz.prog 101 #[.pointer (some ⟨B, 0, none⟩), .agg (msgCells m)] w fun e w' => e = .returned (.tuple #[]) /\ ∃ part' yv' vv' av', RefAtO part' w' B (cameS s m) kv wv lv yv' vv' av' ps rows /\ Moved part part' w w' := by
 obtain ⟨i, x, hi, hx, hi5⟩ := hs.worker h1.1 h1.2
 have ht : x.tasks = [] := htk x (by rw [hi]; simpa using hx)
 obtain ⟨p, gw, wc, hp, hwv, hgw, cw, hip, -⟩ := h.ptrW hx
 subst hwv
 obtain ⟨tv, hpb, hpp, htr⟩ := h.wat i p x hp hx
 obtain ⟨ta, tc, htf⟩ := row_form htr.1
 subst htf
 obtain ⟨Z, hZ⟩ : ∃ Z, w.alloc (Obj.cells (msgCells m) 140) = Z := ⟨_, rfl⟩
 have hbZ : Below w.heap.size w Z := by rw [<- hZ]; exact (Below.refl _ _).alloc (Nat.le_refl _) _
 have bM : BoxAt Z w.heap.size 140 (msgCells m) := by rw [<- hZ]; exact BoxAt.new w _ _
 have SZ : Hid (Z.heap.size = w.heap.size + 1) := by show _ = _; rw [<- hZ]; simp
 have bR := h.box.below hbZ h.box.lt
 have bP := hpb.below hbZ hpb.lt
 have b6 : Z.cell? ⟨B, 6, none⟩ = some (.slice (some ⟨gw, 0, none⟩) ps.length wc) := bR.cell (o := 6) rfl
 have cw' := (hbZ.cell (p := ⟨gw, i, none⟩) hgw).trans cw
 have m1 : Z.cell? ⟨w.heap.size, 1, none⟩ = some (.int .i64 (i : Int)) := by rw [<- hi]; exact bM.cell (o := 1) rfl
 have m3 : Z.cell? ⟨w.heap.size, 3, none⟩ = some (.int .i64 1) := by rw [<- hkd]; exact bM.cell (o := 3) rfl
 have i1 : (0 : Int) <= (i : Int) := by omega
 have i2 : (i : Int) < (ps.length : Int) := by omega
 have hbl := h.box.lt
 have hpl := hpb.lt
 have kZ : Kept (fun _ => False) w Z := Kept.of_below hbZ (fun k h1 h2 => by omega)
 have HS : Hid (cameS s m = sendS s { msg0 with src := (i : Int), dst := m.src, kind := 3 }) := by show _ = _; simp [cameS, hkd, hi, hx, ht]
 have HH := hid_of h
 have HBZ := hid_of hbZ
 have HKZ := hid_of kZ
 have HBM := hid_of bM
 have HPB := hid_of hpb
 have HBP := hid_of bP
 have HTR := hid_of htr
 have HP := hid_of hp
 have HI := hid_of hi
 have p0 : Z.cell? ⟨p, 0, none⟩ = some (.slice ta x.tasks.length tc) := bP.cell (o := 0) rfl
 rw [show x.tasks.length = 0 by rw [ht]; rfl] at p0
 have m0 := bM.cell (o := 0) rfl
 obtain ⟨h9, hm9⟩ := h.later hbZ
 have HSND : Hid (∀ nq, Calls Tryz.prog 88 #[.pointer (some ⟨B, 0, none⟩), .agg (msgCells { msg0 with src := (i : Int), dst := m.src, kind := 3 })] (Z.drewN nq) fun e w' => e = .returned (.tuple #[]) /\ ∃ part' yv', RefAtO part' w' B (sendS s { msg0 with src := (i : Int), dst := m.src, kind := 3 }) kv (.slice (some ⟨gw, 0, none⟩) ps.length wc) lv yv' vv av ps rows /\ Moved part part' w w') := fun nq => by
  obtain ⟨h8, hm8⟩ := h9.later (belowDrewN (Below.refl _ Z) nq)
  refine (ref_send_s { msg0 with src := (i : Int), dst := m.src, kind := 3 } h8 hs hN (by omega) (by rw [<- hi]; exact h1) h0).mono ?_
  rintro e w' ⟨rfl, part', yv', h2, hm2⟩
  exact ⟨rfl, part', yv', h2, (hm9.trans hm8).trans hm2⟩
 clear h9 hm9 hs hN htk ht
 clear h hbZ bR cw kZ bM hpb bP htr hp hi hkd
 go_enter Tryz.func101, Tryz.ntmps101
 go_upto_region 1 with fail
 go_quiet (fail)
 go_wp2_with (go_at_call 88; refine (HSND.out _).mono ?_; rintro e w2 ⟨rfl, part2, yv2, h2, hm2⟩)
 (try simp only [Exit.inBlock, Exit.then])
 refine bodyPost_ret (results_none rfl _ _ _) rfl ?_
 rw [HS.out]
 exact ⟨rfl, _, _, _, _, h2, hm2⟩
set_option maxHeartbeats 8000000 in
set_option maxRecDepth 100000 in
theorem ref_came_result (m : MsgS) {N : Nat} {part : Nat -> Nat} {w : World} {B : Nat} {s : RunS} {kv wv lv yv vv av : Value} {ps : List Nat} {rows : List (Value × List Nat)} (h : RefAtO part w B s kv wv lv yv vv av ps rows) (hs : Shaped s) (hN : Small N s) (hN' : N <= 90000000) (h1 : 0 <= m.dst /\ m.dst < s.workers) (hv : s.values.length <= 900000) (hkd : m.kind = 4) :
  Calls Tryz.prog 101 #[.pointer (some ⟨B, 0, none⟩), .agg (msgCells m)] w fun e w' => e = .returned (.tuple #[]) /\ ∃ part' yv' vv' av', RefAtO part' w' B (cameS s m) kv wv lv yv' vv' av' ps rows /\ Moved part part' w w' := by
 obtain ⟨i, x, hi, hx, hi5⟩ := hs.worker h1.1 h1.2
 obtain ⟨p, gw, wc, hp, hwv, hgw, cw, hip, -⟩ := h.ptrW hx
 subst hwv
 obtain ⟨tv, hpb, hpp, htr⟩ := h.wat i p x hp hx
 obtain ⟨ta, tc, htf⟩ := row_form htr.1
 subst htf
 obtain ⟨Z, hZ⟩ : ∃ Z, w.alloc (Obj.cells (msgCells m) 140) = Z := ⟨_, rfl⟩
 have hbZ : Below w.heap.size w Z := by rw [<- hZ]; exact (Below.refl _ _).alloc (Nat.le_refl _) _
 have bM : BoxAt Z w.heap.size 140 (msgCells m) := by rw [<- hZ]; exact BoxAt.new w _ _
 have SZ : Hid (Z.heap.size = w.heap.size + 1) := by show _ = _; rw [<- hZ]; simp
 have bR := h.box.below hbZ h.box.lt
 have bP := hpb.below hbZ hpb.lt
 have b6 : Z.cell? ⟨B, 6, none⟩ = some (.slice (some ⟨gw, 0, none⟩) ps.length wc) := bR.cell (o := 6) rfl
 have cw' := (hbZ.cell (p := ⟨gw, i, none⟩) hgw).trans cw
 have m1 : Z.cell? ⟨w.heap.size, 1, none⟩ = some (.int .i64 (i : Int)) := by rw [<- hi]; exact bM.cell (o := 1) rfl
 have m3 : Z.cell? ⟨w.heap.size, 3, none⟩ = some (.int .i64 4) := by rw [<- hkd]; exact bM.cell (o := 3) rfl
 have i1 : (0 : Int) <= (i : Int) := by omega
 have i2 : (i : Int) < (ps.length : Int) := by omega
 have hbl := h.box.lt
 have hpl := hpb.lt
 have kZ : Kept (fun _ => False) w Z := Kept.of_below hbZ (fun k h1 h2 => by omega)
 have HS : Hid (cameS s m = { s with W := s.W.set i { x with came := x.came + 1, black := true }, values := putS s.values m.v }) := by show _ = _; simp [cameS, hkd, hi, hx]
 have HH := hid_of h
 have HBZ := hid_of hbZ
 have HKZ := hid_of kZ
 have HBM := hid_of bM
 have HPB := hid_of hpb
 have HBP := hid_of bP
 have HTR := hid_of htr
 have HP := hid_of hp
 have HI := hid_of hi
 obtain ⟨va, vc, hvf⟩ := row_form h.vrow.1
 subst hvf
 have q3 := bP.cell (o := 3) rfl
 have q4 := bP.cell (o := 4) rfl
 have f5 := bP.frozen
 have hgot := hN.got x (List.mem_of_getElem? hx)
 have a1 : IntKind.i64.wrap (x.came + 1) = x.came + 1 := IntWalk.i64_in _ (by omega)
 clear hN hgot hs
 clear h hbZ bR cw kZ bM hpb bP htr hp hi hkd
 go_enter Tryz.func101, Tryz.ntmps101
 go_upto_region 1 with fail
 go_quiet (fail)
 go_upto_region 18 with fail
 obtain ⟨W4, hW4⟩ : ∃ W4, ((Z.drewN nq).setCell ⟨p, 3, none⟩ (.int .i64 (x.came + 1))).setCell ⟨p, 4, none⟩ (.bool true) = W4 := ⟨_, rfl⟩
 have kP : Kept (· = p) (Z.drewN nq) W4 := by rw [<- hW4]; exact ((Kept.refl _ _).setCell (.inl (by rfl)) _).setCell (.inl (by rfl)) _
 have k4 : Kept (· = p) w W4 := ((HKZ.out.mono (fun _ _ h => h.elim)).drewN nq).trans kP
 have bp4 : BoxAt W4 p 142 (workerCells (.slice ta x.tasks.length tc) { x with came := x.came + 1, black := true }) := by rw [<- hW4]; exact ((HBP.out.drewN nq).setAt 3 _).setAt 4 _
 have bm4 : BoxAt W4 w.heap.size 140 (msgCells m) := (HBM.out.drewN nq).kept kP (by omega)
 obtain ⟨h5, hm5⟩ := HH.out.recells (x' := { x with came := x.came + 1, black := true }) (by omega) HP.out HPB.out hpp HTR.out k4 bp4 rfl
 have HH5 := hid_of h5
 have HM5 := hid_of hm5
 rw [hW4]
 clear hW4 kP k4 m1 m3 q3 q4 f5 b6 cw' bp4
 have m7 := bm4.cell (o := 7) rfl
 have m8 := bm4.cell (o := 8) rfl
 have d9 : W4.cell? ⟨B, 9, none⟩ = some (.slice va s.values.length vc) := h5.box.cell (o := 9) rfl
 have e9 := h5.box.frozen 9
 have hb4 : B < W4.heap.size := h5.box.lt
 have HPUT : Hid (∀ U, Below W4.heap.size W4 U -> Calls Tryz.prog 86 #[.slice va s.values.length vc, .agg #[.string m.v.1, .int .i64 m.v.2]] U fun e w' => ∃ v, e = .returned v /\ (w'.ownsRow W4.heap.size 84 2 v (putS s.values m.v).length (pairCells (putS s.values m.v)) /\ Below W4.heap.size W4 w')) := fun U hU => by
  have hrowU := row_below h5.vrow.1 hU (fun g' hg' => (h5.vrow.1.lt g' hg').2)
  refine (put_calls _ s.values m.v U (pairs_of_row hrowU).2 (by omega)).mono ?_
  rintro e w' ⟨v, rfl, h1, h2⟩
  exact ⟨v, rfl, row_kept h1 (Kept.refl (fun _ => False) _) (fun _ _ h => h) hU.size, hU.trans (h2.mono hU.size)⟩
 obtain ⟨n8, hn8⟩ : ∃ n8, (putS s.values m.v).length = n8 := ⟨_, rfl⟩
 have HN8 : Hid ((putS s.values m.v).length = n8) := hn8
 rw [hn8] at HPUT
 clear hn8 h5 hm5 bm4
 go_region_law (refine step_call2 (by rfl) 86 _ _ _ (by rfl) (.slice va s.values.length vc) (.agg #[.string m.v.1, .int .i64 m.v.2]) (by rfl) (by rfl) (enters_of Tryz.func86 (by kernel_rfl) rfl) (HPUT.out _ (by first | assumption | exact Below.refl _ _ | exact (Below.refl _ _).drew | exact Below.drew (by assumption))) ?_; rintro v8 w8 ⟨hrow8, hb8⟩; obtain ⟨a8, c8, rfl⟩ := row_form hrow8; have hB8 := HH5.out.box.below hb8 HH5.out.box.lt; have i9 := hB8.cell (o := 9) rfl; have f9 := hB8.frozen 9)
 all_goals
  go_wp2_with fail
  go_end0
  rw [HS.out]
  have k86 : Kept (· = B) w8 (w8.setCell ⟨B, 9, none⟩ (.slice a8 n8 c8)) := (Kept.refl _ _).setCell (.inl (by rfl)) _
  obtain ⟨h6, hm6⟩ := HH5.out.revals (vals' := putS s.values m.v) ((Kept.of_below hb8 (fun b h1 h2 => absurd h1 (by omega))).trans (k86.mono (fun _ _ h => .inl h))) (hB8.setAt 9 _) (by
   rw [HN8.out]
   exact ownsRow_base (row_kept hrow8 k86 (fun g e h => by subst h; exact row_ne hrow8 hB8 (by decide) e) (Nat.le_refl _)) (Nat.zero_le _)) (fun g e => .inr (hrow8.lt g e).1)
  exact ⟨rfl, _, _, _, _, h6, HM5.out.trans hm6⟩
theorem addr_plus (g o j : Nat) : (⟨g, o, none⟩ : Addr).add j = ⟨g, o + j, none⟩ := by unfold Addr.add; split <;> simp_all
set_option maxHeartbeats 8000000 in
set_option maxRecDepth 100000 in
theorem ref_came_asks1 (m : MsgS) {N : Nat} {part : Nat -> Nat} {w : World} {B : Nat} {s : RunS} {kv wv lv yv vv av : Value} {ps : List Nat} {rows : List (Value × List Nat)} (h : RefAtO part w B s kv wv lv yv vv av ps rows) (hs : Shaped s) (hN : Small N s) (hN' : N <= 90000000) (h0 : 0 <= m.src /\ m.src < s.workers) (h1 : 0 <= m.dst /\ m.dst < s.workers) (htk : ∀ x ∈ s.W, x.tasks.length <= 1000000) (t : TaskS) (r : List TaskS) (htt : ∀ x, s.W[m.dst.toNat]? = some x -> x.tasks = t :: r) (hkd : m.kind = 1) :
  Calls Tryz.prog 101 #[.pointer (some ⟨B, 0, none⟩), .agg (msgCells m)] w fun e w' => e = .returned (.tuple #[]) /\ ∃ part' yv' vv' av', RefAtO part' w' B (cameS s m) kv wv lv yv' vv' av' ps rows /\ Moved part part' w w' := by
 obtain ⟨i, x, hi, hx, hi5⟩ := hs.worker h1.1 h1.2
 have ht : x.tasks = t :: r := htt x (by rw [hi]; simpa using hx)
 clear htt
 obtain ⟨p, gw, wc, hp, hwv, hgw, cw, hip, -⟩ := h.ptrW hx
 subst hwv
 obtain ⟨tv, hpb, hpp, htr⟩ := h.wat i p x hp hx
 obtain ⟨ta, tc, htf⟩ := row_form htr.1
 subst htf
 obtain ⟨Z, hZ⟩ : ∃ Z, w.alloc (Obj.cells (msgCells m) 140) = Z := ⟨_, rfl⟩
 have hbZ : Below w.heap.size w Z := by rw [<- hZ]; exact (Below.refl _ _).alloc (Nat.le_refl _) _
 have bM : BoxAt Z w.heap.size 140 (msgCells m) := by rw [<- hZ]; exact BoxAt.new w _ _
 have SZ : Hid (Z.heap.size = w.heap.size + 1) := by show _ = _; rw [<- hZ]; simp
 have bR := h.box.below hbZ h.box.lt
 have bP := hpb.below hbZ hpb.lt
 have b6 : Z.cell? ⟨B, 6, none⟩ = some (.slice (some ⟨gw, 0, none⟩) ps.length wc) := bR.cell (o := 6) rfl
 have cw' := (hbZ.cell (p := ⟨gw, i, none⟩) hgw).trans cw
 have m1 : Z.cell? ⟨w.heap.size, 1, none⟩ = some (.int .i64 (i : Int)) := by rw [<- hi]; exact bM.cell (o := 1) rfl
 have m3 : Z.cell? ⟨w.heap.size, 3, none⟩ = some (.int .i64 1) := by rw [<- hkd]; exact bM.cell (o := 3) rfl
 have i1 : (0 : Int) <= (i : Int) := by omega
 have i2 : (i : Int) < (ps.length : Int) := by omega
 have hbl := h.box.lt
 have hpl := hpb.lt
 have kZ : Kept (fun _ => False) w Z := Kept.of_below hbZ (fun k h1 h2 => by omega)
 have HS : Hid (cameS s m = sendS { s with W := s.W.set i { x with tasks := r } } { msg0 with src := (i : Int), dst := m.src, kind := 2, t := t }) := by show _ = _; simp [cameS, hkd, hi, hx, ht]
 have HH := hid_of h
 have HBZ := hid_of hbZ
 have HKZ := hid_of kZ
 have HBM := hid_of bM
 have HPB := hid_of hpb
 have HBP := hid_of bP
 have HTR := hid_of htr
 have HP := hid_of hp
 have HI := hid_of hi
 obtain ⟨iT, hiT, hzT0, hzT1, hzT2⟩ := info_parts infoTask
 have hln : x.tasks.length = r.length + 1 := by rw [ht]; simp
 obtain ⟨gt, tc', htf, -, hgt⟩ := World.ownsRow.form htr.1 (by omega)
 cases htf
 have htl := htk x (List.mem_of_getElem? hx)
 have p0 : Z.cell? ⟨p, 0, none⟩ = some (.slice (some ⟨gt, 0, none⟩) x.tasks.length tc) := bP.cell (o := 0) rfl
 rw [hln] at p0
 have f0 := bP.frozen 0
 have HCT : Hid (∀ j u, (taskEnc t ++ r.flatMap taskEnc)[j]? = some u -> Z.cell? ⟨gt, j, none⟩ = some u) := fun j u hj => by
  have h9 := htr.1.cells (g := gt) rfl j u (by rw [ht, List.flatMap_cons]; exact hj)
  rw [addr_add] at h9
  exact (hbZ.cell (p := ⟨gt, j, none⟩) hgt).trans h9
 have t0 : Z.cell? ⟨gt, 0, none⟩ = some (.string t.id) := HCT.out 0 _ rfl
 have t1 : Z.cell? ⟨gt, 1, none⟩ = some (.int .i64 t.kind) := HCT.out 1 _ rfl
 have t2 : Z.cell? ⟨gt, 2, none⟩ = some (.int .i64 t.arg) := HCT.out 2 _ rfl
 have hcap : r.length + 1 <= tc := by
  rcases htr.1.2 with ⟨h0, _⟩ | ⟨g', cap', cur, h0, _, _, h1, _⟩
  ·cases h0
  ·cases h0; omega
 have HSS := hid_of hs
 have HNN := hid_of hN
 have HX := hid_of hx
 have HLN := hid_of hln
 have l1 : (0 : Int) < ((r.length + 1 : Nat) : Int) := by omega
 have l2 : (1 : Int) <= ((r.length + 1 : Nat) : Int) := by omega
 have l3 : ¬ ((r.length + 1 : Nat) : Int) = 0 := by omega
 have hwk := h1
 rw [hi] at hwk
 have hgz : gt < Z.heap.size := by have := SZ.out; omega
 clear hs hN htk ht hln hx
 clear h hbZ bR cw kZ bM hpb bP htr hp hi hkd
 go_enter Tryz.func101, Tryz.ntmps101
 go_upto_region 1 with fail
 go_quiet (fail)
 obtain ⟨Y, hY⟩ : ∃ Y, Z.drewN nq = Y := ⟨_, rfl⟩
 have hbY : Below w.heap.size w Y := by rw [<- hY]; exact belowDrewN HBZ.out nq
 have SY : Hid (Y.heap.size = w.heap.size + 1) := by show _ = _; rw [<- hY]; simpa using SZ.out
 have c3 : Y.cell? ⟨w.heap.size, 3, none⟩ = some (.int .i64 1) := by rw [<- hY]; exact m3
 have HBM1 : Hid (BoxAt Y w.heap.size 140 (msgCells m)) := by rw [<- hY]; exact HBM.out
 have HBP1 : Hid (BoxAt Y p 142 (workerCells (.slice (some ⟨gt, 0, none⟩) (r.length + 1) tc) x)) := by rw [<- hY, <- HLN.out]; exact HBP.out
 have d0 : Y.cell? ⟨p, 0, none⟩ = some (.slice (some ⟨gt, 0, none⟩) (r.length + 1) tc) := HBP1.out.cell (o := 0) rfl
 have u0 : Y.cell? ⟨gt, 0, none⟩ = some (.string t.id) := by rw [<- hY]; exact t0
 have u1 : Y.cell? ⟨gt, 1, none⟩ = some (.int .i64 t.kind) := by rw [<- hY]; exact t1
 have u2 : Y.cell? ⟨gt, 2, none⟩ = some (.int .i64 t.arg) := by rw [<- hY]; exact t2
 have HCT1 : Hid (∀ j u, (taskEnc t ++ r.flatMap taskEnc)[j]? = some u -> Y.cell? ⟨gt, j, none⟩ = some u) := by rw [<- hY]; exact HCT.out
 have HBY := hid_of hbY
 rw [hY]
 clear hY hZ hbY SZ b6 cw' m1 m3 p0 f0 t0 t1 t2 HCT HBM HBP HBZ HKZ hgz
 have hgy : gt < Y.heap.size := by have := SY.out; omega
 go_upto_region 10 with fail
 obtain ⟨Y1, hY1⟩ : ∃ Y1, Y.alloc (Obj.cells #[.string t.id, .int .i64 t.kind, .int .i64 t.arg] 76) = Y1 := ⟨_, rfl⟩
 have hb1 : Below w.heap.size w Y1 := by rw [<- hY1]; exact HBY.out.alloc (by have := SY.out; omega) _
 have hb1' : Below Y.heap.size Y Y1 := by rw [<- hY1]; exact (Below.refl _ _).alloc (Nat.le_refl _) _
 have HT1 : Hid (BoxAt Y1 Y.heap.size 76 #[.string t.id, .int .i64 t.kind, .int .i64 t.arg]) := by rw [<- hY1]; exact BoxAt.new Y _ _
 have S1 : Hid (Y1.heap.size = w.heap.size + 2) := by show _ = _; rw [<- hY1]; simp [SY.out]
 have HBM2 : Hid (BoxAt Y1 w.heap.size 140 (msgCells m)) := HBM1.out.below hb1' HBM1.out.lt
 have HBP2 : Hid (BoxAt Y1 p 142 (workerCells (.slice (some ⟨gt, 0, none⟩) (r.length + 1) tc) x)) := HBP1.out.below hb1' HBP1.out.lt
 have HCT2 : Hid (∀ j u, (r.flatMap taskEnc)[j]? = some u -> Y1.cell? ⟨gt, 3 + j, none⟩ = some u) := fun j u hj => (hb1'.cell (p := ⟨gt, 3 + j, none⟩) hgy).trans (HCT1.out (3 + j) u (by rw [List.getElem?_append_right (by show 3 <= _; omega)]; rw [show 3 + j - (taskEnc t).length = j by show 3 + j - 3 = j; omega]; exact hj))
 have HB1 := hid_of hb1
 rw [hY1]
 clear hY1 hb1 hb1' c3 d0 u0 u1 u2 HCT1 HBM1 HBP1 hgy
 have d0 := HBP2.out.cell (o := 0) rfl
 have f0 := HBP2.out.frozen 0
 have hpz : p < Y1.heap.size := HBP2.out.lt
 have hgz : gt < Y1.heap.size := by have := S1.out; omega
 have HFR : Hid ((r.flatMap taskEnc).length = r.length * 3) := flat_length (sz := 3) (enc := taskEnc) (fun _ => rfl) r
 have FIN : Hid (∀ w6 tv', BoxAt w6 p 142 (workerCells tv' { x with tasks := r }) -> w6.ownsRow Y1.heap.size 76 3 tv' r.length (r.flatMap taskEnc) -> Kept (fun g => g = p \/ Y1.heap.size <= g) Y1 w6 -> ∃ part6, RefAtO part6 w6 B { s with W := s.W.set i { x with tasks := r } } kv (.slice (some ⟨gw, 0, none⟩) ps.length wc) lv yv vv av ps rows /\ Moved part part6 w w6 /\ BoxAt w6 w.heap.size 140 (msgCells m) /\ BoxAt w6 Y.heap.size 76 #[.string t.id, .int .i64 t.kind, .int .i64 t.arg]) := fun w6 tv' hb hr hk => by
  have k6 : Kept (· = p) w w6 := (Kept.of_below HB1.out (fun b h1 h2 => absurd h1 (by omega))).andThen hk (fun b h1 h2 => by
   rcases h2 with h2 | h2
   ·exact h2
   ·have := S1.out; omega)
  obtain ⟨h6, hm6⟩ := HH.out.reworker (x' := { x with tasks := r }) (by omega) HP.out (k6.mono (fun g _ e => by rw [e]; exact hpp)) ⟨tv', hb, .inl ⟨hpp, hpl⟩, ownsRow_base hr (Nat.zero_le _), fun g e => .inr (by have := (hr.lt g e).1; have := S1.out; omega)⟩
  exact ⟨_, h6, hm6, HBM2.out.kept hk (by have := S1.out; omega), HT1.out.kept hk (by have := S1.out; have := SY.out; omega)⟩
 go_cut [64] (fun _ wx => ∃ part6, RefAtO part6 wx B { s with W := s.W.set i { x with tasks := r } } kv (.slice (some ⟨gw, 0, none⟩) ps.length wc) lv yv vv av ps rows /\ Moved part part6 w wx /\ BoxAt wx w.heap.size 140 (msgCells m) /\ BoxAt wx Y.heap.size 76 #[.string t.id, .int .i64 t.kind, .int .i64 t.arg])
 case first =>
  by_cases htc : tc = 1
  ·subst htc
   have hr0 : r = [] := List.length_eq_zero_iff.1 (by omega)
   subst hr0
   go_wp2_with fail
   go_meet
   case rel =>
    have kS : Kept (fun g => g = p \/ Y1.heap.size <= g) Y1 ((Y1.setCell ⟨p, 0, none⟩ (.slice (some ⟨Y1.heap.size, 0, none⟩) 0 0)).alloc (Obj.cells #[] 76)) := ((Kept.refl _ _).setCell (.inl (.inl (by rfl))) _).trans (Kept.alloc _ _ _)
    exact FIN.out _ (.slice (some ⟨Y1.heap.size, 0, none⟩) 0 0) ((HBP2.out.setAt 0 _).alloc _) (row_new (Y1.setCell ⟨p, 0, none⟩ (.slice (some ⟨Y1.heap.size, 0, none⟩) 0 0)) Y1.heap.size Y1.heap.size 76 3 0 #[] [] (World.size_setCell _ _ _) (Nat.le_refl _) rfl rfl (by unfold maxLen; omega)) kS
  ·have y1 : ¬ tc - 1 = 0 := by omega
   have y2 : 1 < tc := by omega
   have y3 : (1 : Int) < (tc : Int) := by omega
   have HN1 : Hid (∀ j u, (r.flatMap taskEnc)[j]? = some u -> ∃ b, (some ⟨gt, 3, none⟩ : Option Addr) = some b /\ (Y1.alloc (Obj.cells #[] 76)).cell? (b.add j) = some u) := fun j u hj => ⟨_, rfl, by
    rw [addr_plus]
    exact (((Below.refl _ _).alloc (Nat.le_refl Y1.heap.size) _).cell (p := ⟨gt, 3 + j, none⟩) hgz).trans (HCT2.out j u hj)⟩
   go_wp2_with (at_builtin; refine wpList_append_any rfl _ _ _ rfl Y1.heap.size 76 iT _ 3 32 Tryz.underlying52 hiT hzT0 hzT1 hzT2 rfl (by omega) (.slice (some ⟨Y1.heap.size, 0, none⟩) 0 0) 0 [] rfl (row_new _ _ _ _ _ _ _ _ (by rfl) (Nat.le_refl _) rfl rfl (by unfold maxLen; omega)) (some ⟨gt, 3, none⟩) r.length (tc - 1) (r.flatMap taskEnc) rfl HFR.out HN1.out (flat_one taskEnc_one _) (by have := HLN.out; unfold maxLen; omega) (by have := HLN.out; omega) (by simp) ?_; intro v3 w3 hown3 hgrow3; rw [Nat.zero_add, List.nil_append] at hown3; obtain ⟨a3, c3, rfl⟩ := row_form hown3; have hp3 : BoxAt w3 p 142 (workerCells (.slice (some ⟨gt, 0, none⟩) (r.length + 1) tc) x) := (hgrow3.block p (by simp; omega) (fun e => by simp [Value.ownBlock] at e; omega)).trans (HBP2.out.alloc _); have d1 := hp3.cell (o := 0) rfl; have f1 := hp3.frozen 0)
   go_meet
   case rel =>
    have kS : Kept (· = p) w3 (w3.setCell ⟨p, 0, none⟩ (.slice a3 r.length c3)) := (Kept.refl _ _).setCell (.inl (by rfl)) _
    have kA : Kept (fun g => g = p \/ Y1.heap.size <= g) Y1 w3 := (Kept.alloc _ _ _).trans (Kept.grown hgrow3 (fun r e => by simp [Value.ownBlock] at e; exact .inr (by omega)))
    exact FIN.out _ (.slice a3 r.length c3) (hp3.setAt 0 _) (row_kept hown3 kS (fun g e h => by subst h; exact row_ne hown3 hp3 (by decide) e) (Nat.le_refl _)) (kA.trans (kS.mono (fun _ _ h => .inl h)))
 case rest =>
  obtain ⟨part6, h6, hm6, bm6, bt6⟩ := hcut
  rename World => w6
  have m0 : w6.cell? ⟨w.heap.size, 0, none⟩ = some (.int .i64 m.src) := bm6.cell (o := 0) rfl
  have m1 : w6.cell? ⟨w.heap.size, 1, none⟩ = some (.int .i64 (i : Int)) := by rw [<- HI.out]; exact bm6.cell (o := 1) rfl
  have t0 := bt6.cell (o := 0) rfl
  have t1 := bt6.cell (o := 1) rfl
  have t2 := bt6.cell (o := 2) rfl
  have hs6 : Shaped { s with W := s.W.set i { x with tasks := r } } := ⟨by simpa using HSS.out.len, HSS.out.two, HSS.out.five, by simpa using HSS.out.llen, fun ls hl => by simpa using HSS.out.lrow ls hl, HSS.out.way⟩
  have hN6 : Small N { s with W := s.W.set i { x with tasks := r } } := ⟨HNN.out.all, HNN.out.known, HNN.out.came, HNN.out.kept, fun y hy => by
   rcases List.mem_or_eq_of_mem_set hy with h' | rfl
   ·exact HNN.out.sent y h'
   ·exact HNN.out.sent x (List.mem_of_getElem? HX.out), fun y hy => by
   rcases List.mem_or_eq_of_mem_set hy with h' | rfl
   ·exact HNN.out.got y h'
   ·exact HNN.out.got x (List.mem_of_getElem? HX.out)⟩
  have HSND : Hid (Calls Tryz.prog 88 #[.pointer (some ⟨B, 0, none⟩), .agg (msgCells { msg0 with src := (i : Int), dst := m.src, kind := 2, t := t })] w6 _) := ref_send_s { msg0 with src := (i : Int), dst := m.src, kind := 2, t := t } h6 hs6 hN6 (by omega) hwk h0
  have HM6 := hid_of hm6
  clear h6 hm6 bm6 bt6 hs6 hN6 d0 f0
  go_wp2_with (go_at_call 88; refine HSND.out.mono ?_; rintro e w2 ⟨rfl, part2, yv2, h2, hm2⟩)
  go_end0
  rw [HS.out]
  exact ⟨rfl, _, _, _, _, h2, HM6.out.trans hm2⟩
theorem ref_idle_o {part : Nat -> Nat} {w : World} {B : Nat} {s : RunS} {kv wv lv yv vv av : Value} {ps : List Nat} {rows : List (Value × List Nat)} (h : RefAtO part w B s kv wv lv yv vv av ps rows) (i : Nat) (x : WorkerS) (hx : s.W[i]? = some x) :
  Calls Tryz.prog 149 #[.pointer (some ⟨B, 0, none⟩), .int .i64 (i : Int)] w fun e w' => e = .returned (.bool x.tasks.isEmpty) /\ w = w' := by
 obtain ⟨p, gw, wc, hp, hwv, hgw, cw, hip, -⟩ := h.ptrW hx
 subst hwv
 obtain ⟨tv, hpb, hpp, htr⟩ := h.wat i p x hp hx
 obtain ⟨ta, tc, htf⟩ := row_form htr.1
 subst htf
 have b6 : w.cell? ⟨B, 6, none⟩ = some (.slice (some ⟨gw, 0, none⟩) ps.length wc) := h.box.cell (o := 6) rfl
 have p0 : w.cell? ⟨p, 0, none⟩ = some (.slice ta x.tasks.length tc) := hpb.cell (o := 0) rfl
 have i1 : (0 : Int) <= (i : Int) := by omega
 have i2 : (i : Int) < (ps.length : Int) := by omega
 clear h htr hpb
 cases ht : x.tasks with
 | nil =>
  rw [ht] at p0
  have q0 : w.cell? ⟨p, 0, none⟩ = some (.slice ta 0 tc) := p0
  clear p0 ht
  go_enter Tryz.func149, Tryz.ntmps149
  go_wp2_with fail
  go_ret
  exact ⟨rfl, rfl⟩
 | cons t r =>
  rw [ht] at p0
  have q0 : w.cell? ⟨p, 0, none⟩ = some (.slice ta (r.length + 1) tc) := p0
  have hb : (((r.length + 1 : Nat) : Int) == 0) = false := by rw [beq_eq_false_iff_ne]; omega
  have hb2 : (((r.length : Int) + 1) == 0) = false := by rw [beq_eq_false_iff_ne]; omega
  clear p0 ht
  go_enter Tryz.func149, Tryz.ntmps149
  go_wp2_with fail
  go_ret
  exact ⟨rfl, rfl⟩
set_option maxHeartbeats 8000000 in
set_option maxRecDepth 100000 in
theorem ref_came_wave (m : MsgS) {N : Nat} {part : Nat -> Nat} {w : World} {B : Nat} {s : RunS} {kv wv lv yv vv av : Value} {ps : List Nat} {rows : List (Value × List Nat)} (h : RefAtO part w B s kv wv lv yv vv av ps rows) (hs : Shaped s) (hN : Small N s) (hN' : N <= 90000000) (h1 : 0 <= m.dst /\ m.dst < s.workers) (hkd : m.kind = 6) :
  Calls Tryz.prog 101 #[.pointer (some ⟨B, 0, none⟩), .agg (msgCells m)] w fun e w' => e = .returned (.tuple #[]) /\ ∃ part' yv' vv' av', RefAtO part' w' B (cameS s m) kv wv lv yv' vv' av' ps rows /\ Moved part part' w w' := by
 obtain ⟨i, x, hi, hx, hi5⟩ := hs.worker h1.1 h1.2
 obtain ⟨p, gw, wc, hp, hwv, hgw, cw, hip, -⟩ := h.ptrW hx
 subst hwv
 obtain ⟨tv, hpb, hpp, htr⟩ := h.wat i p x hp hx
 obtain ⟨ta, tc, htf⟩ := row_form htr.1
 subst htf
 obtain ⟨Z, hZ⟩ : ∃ Z, w.alloc (Obj.cells (msgCells m) 140) = Z := ⟨_, rfl⟩
 have hbZ : Below w.heap.size w Z := by rw [<- hZ]; exact (Below.refl _ _).alloc (Nat.le_refl _) _
 have bM : BoxAt Z w.heap.size 140 (msgCells m) := by rw [<- hZ]; exact BoxAt.new w _ _
 have SZ : Hid (Z.heap.size = w.heap.size + 1) := by show _ = _; rw [<- hZ]; simp
 have bR := h.box.below hbZ h.box.lt
 have bP := hpb.below hbZ hpb.lt
 have b6 : Z.cell? ⟨B, 6, none⟩ = some (.slice (some ⟨gw, 0, none⟩) ps.length wc) := bR.cell (o := 6) rfl
 have cw' := (hbZ.cell (p := ⟨gw, i, none⟩) hgw).trans cw
 have m1 : Z.cell? ⟨w.heap.size, 1, none⟩ = some (.int .i64 (i : Int)) := by rw [<- hi]; exact bM.cell (o := 1) rfl
 have m3 : Z.cell? ⟨w.heap.size, 3, none⟩ = some (.int .i64 6) := by rw [<- hkd]; exact bM.cell (o := 3) rfl
 have i1 : (0 : Int) <= (i : Int) := by omega
 have i2 : (i : Int) < (ps.length : Int) := by omega
 have hbl := h.box.lt
 have hpl := hpb.lt
 have kZ : Kept (fun _ => False) w Z := Kept.of_below hbZ (fun k h1 h2 => by omega)
 have HS : Hid (cameS s m = sendS s { msg0 with src := (i : Int), dst := 0, kind := 7, round := m.round, sent := x.sent, came := x.came, idle := x.tasks.isEmpty }) := by show _ = _; simp [cameS, hkd, hi, hx]
 have HH := hid_of h
 have HBZ := hid_of hbZ
 have HKZ := hid_of kZ
 have HBM := hid_of bM
 have HPB := hid_of hpb
 have HBP := hid_of bP
 have HTR := hid_of htr
 have HP := hid_of hp
 have HI := hid_of hi
 obtain ⟨h9, hm9⟩ := h.later hbZ
 have HIDL : Hid (∀ nq, Calls Tryz.prog 149 #[.pointer (some ⟨B, 0, none⟩), .int .i64 (i : Int)] (Z.drewN nq) fun e w' => e = .returned (.bool x.tasks.isEmpty) /\ (Z.drewN nq) = w') := fun nq => by
  obtain ⟨h8, hm8⟩ := h9.later (belowDrewN (Below.refl _ Z) nq)
  exact ref_idle_o h8 i x hx
 have q2 := bP.cell (o := 2) rfl
 have q3 := bP.cell (o := 3) rfl
 have m12 := bM.cell (o := 12) rfl
 have HSND : Hid (∀ U, Below Z.heap.size Z U -> Calls Tryz.prog 88 #[.pointer (some ⟨B, 0, none⟩), .agg (msgCells { msg0 with src := (i : Int), dst := 0, kind := 7, round := m.round, sent := x.sent, came := x.came, idle := x.tasks.isEmpty })] U fun e w' => ∃ v, e = .returned v /\ (v = .tuple #[] /\ ∃ part2 yv2, RefAtO part2 w' B (sendS s { msg0 with src := (i : Int), dst := 0, kind := 7, round := m.round, sent := x.sent, came := x.came, idle := x.tasks.isEmpty }) kv (.slice (some ⟨gw, 0, none⟩) ps.length wc) lv yv2 vv av ps rows /\ Moved part part2 w w')) := fun U hU => by
  obtain ⟨h8, hm8⟩ := h9.later hU
  refine (ref_send_s { msg0 with src := (i : Int), dst := 0, kind := 7, round := m.round, sent := x.sent, came := x.came, idle := x.tasks.isEmpty } h8 hs hN (by omega) (by rw [<- hi]; exact h1) (by have := hs.two; show (0 : Int) <= 0 /\ (0 : Int) < s.workers; omega)).mono ?_
  rintro e w' ⟨rfl, part', yv', h2, hm2⟩
  exact ⟨_, rfl, rfl, part', yv', h2, (hm9.trans hm8).trans hm2⟩
 obtain ⟨id, hid⟩ : ∃ id, x.tasks.isEmpty = id := ⟨_, rfl⟩
 rw [hid] at HIDL HSND HS
 clear h9 hm9 hs hN hid
 clear h hbZ bR cw kZ bM hpb bP htr hp hi hkd
 go_enter Tryz.func101, Tryz.ntmps101
 go_upto_region 1 with fail
 go_quiet (fail)
 go_upto_region 25 with (go_at_call 149; refine (HIDL.out _).mono ?_; rintro e w1 ⟨rfl, rfl⟩)
 go_region_law (refine step_call2 (by rfl) 88 _ _ _ (by rfl) (.pointer (some ⟨B, 0, none⟩)) (.agg (msgCells { msg0 with src := (i : Int), dst := 0, kind := 7, round := m.round, sent := x.sent, came := x.came, idle := id })) (by rfl) (by rfl) (enters_of Tryz.func88 (by kernel_rfl) rfl) (HSND.out _ (by first | exact (belowDrewN (Below.refl _ _) _).drew | exact belowDrewN (Below.refl _ _) _)) ?_; rintro v9 w9 ⟨rfl, part2, yv2, h2, hm2⟩)
 all_goals
  go_wp2_with fail
  go_end0
  rw [HS.out]
  exact ⟨rfl, _, _, _, _, h2, hm2⟩
theorem setAll_tail : ∀ (us xs ys : List Value), us.length = ys.length -> setAll (xs ++ ys) xs.length us = xs ++ us
 | [], xs, ys, h => by
  have : ys = [] := List.length_eq_zero_iff.1 h.symm
  subst this
  rfl
 | u :: r, xs, ys, h => by
  cases ys with
  | nil => simp at h
  | cons y q =>
   rw [setAll]
   have e : (xs ++ y :: q).set xs.length u = (xs ++ [u]) ++ q := by simp
   have e2 : xs.length + 1 = (xs ++ [u]).length := by simp
   rw [e, e2, setAll_tail r (xs ++ [u]) q (by simpa using h)]
   simp
set_option maxHeartbeats 4000000 in
set_option maxRecDepth 100000 in
theorem ref_noted_o {part : Nat -> Nat} {w : World} {B : Nat} {s : RunS} {kv wv lv yv vv av : Value} {ps : List Nat} {rows : List (Value × List Nat)} (h : RefAtO part w B s kv wv lv yv vv av ps rows) (L : List AnsS) (a : AnsS) (ha : s.answers = L ++ [a]) (hL : L.length <= 100000000) (sent came : Int) (idle : Bool)
  (h1 : -1000000000000000 <= a.many /\ a.many <= 1000000000000000) (h2 : -1000000000000000000 <= a.sent + sent /\ a.sent + sent <= 1000000000000000000) (h3 : -1000000000000000000 <= a.came + came /\ a.came + came <= 1000000000000000000) :
  Calls Tryz.prog 150 #[.pointer (some ⟨B, 0, none⟩), .int .i64 sent, .int .i64 came, .bool idle] w fun e w' => e = .returned (.tuple #[]) /\ ∃ part' av', RefAtO part' w' B (notedS s sent came idle) kv wv lv yv vv av' ps rows /\ Moved part part' w w' := by
 have hlen : s.answers.length = L.length + 1 := by rw [ha]; simp
 obtain ⟨ga, ac, hf, -, hgl⟩ := World.ownsRow.form h.arow.1 (by omega)
 subst hf
 have hrow : w.ownsRow 0 194 4 (.slice (some ⟨ga, 0, none⟩) (L.length + 1) ac) (L.length + 1) (L.flatMap ansEnc ++ ansEnc a) := by
  have h9 := h.arow.1
  rw [hlen, ha, List.flatMap_append] at h9
  simpa using h9
 have hfl : (L.flatMap ansEnc).length = L.length * 4 := flat_length (sz := 4) (enc := ansEnc) (fun _ => rfl) L
 have hcell : ∀ j u, (ansEnc a)[j]? = some u -> w.cell? ⟨ga, L.length * 4 + j, none⟩ = some u := fun j u hj => by
  have h1 := hrow.cells (g := ga) rfl (L.length * 4 + j) u (by
   rw [List.getElem?_append_right (by omega), hfl, show L.length * 4 + j - L.length * 4 = j from by omega]
   exact hj)
  rwa [addr_add] at h1
 have c0 : w.cell? ⟨ga, L.length * 4, none⟩ = some (.int .i64 a.many) := hcell 0 _ rfl
 have c1 : w.cell? ⟨ga, L.length * 4 + 1, none⟩ = some (.int .i64 a.sent) := hcell 1 _ rfl
 have c2 : w.cell? ⟨ga, L.length * 4 + 2, none⟩ = some (.int .i64 a.came) := hcell 2 _ rfl
 have c3 : w.cell? ⟨ga, L.length * 4 + 3, none⟩ = some (.bool a.idle) := hcell 3 _ rfl
 have fz : ∀ o, w.frozen? ⟨ga, o, none⟩ = false := fun o => row_frozen hrow o
 have z0 := fz (L.length * 4)
 have z1 := fz (L.length * 4 + 1)
 have z2 := fz (L.length * 4 + 2)
 have z3 := fz (L.length * 4 + 3)
 have b11 : w.cell? ⟨B, 11, none⟩ = some (.slice (some ⟨ga, 0, none⟩) (L.length + 1) ac) := by rw [<- hlen]; exact h.box.cell (o := 11) rfl
 have w0 : IntKind.i64.wrap (((L.length + 1 : Nat) : Int) - 1) = (L.length : Int) := by rw [IntWalk.i64_in _ (by omega)]; omega
 have w0' : (((L.length + 1 : Nat) : Int) - 1) = (L.length : Int) := by omega
 have w1 : IntKind.i64.wrap (a.many + 1) = a.many + 1 := IntWalk.i64_in _ (by omega)
 have w2 : IntKind.i64.wrap (a.sent + sent) = a.sent + sent := IntWalk.i64_in _ (by omega)
 have w3 : IntKind.i64.wrap (a.came + came) = a.came + came := IntWalk.i64_in _ (by omega)
 have j1 : (0 : Int) <= (L.length : Int) := by omega
 have j2 : (L.length : Int) < ((L.length + 1 : Nat) : Int) := by omega
 have HS : Hid (notedS s sent came idle = { s with answers := L ++ [⟨a.many + 1, a.sent + sent, a.came + came, a.idle && idle⟩] }) := by show _ = _; simp [notedS, ha]
 have FIN : Hid (∀ b nq, b = (a.idle && idle) -> ∃ part' av', RefAtO part' (putAll (w.drewN nq) ga (L.length * 4) [.int .i64 (a.many + 1), .int .i64 (a.sent + sent), .int .i64 (a.came + came), .bool b]) B (notedS s sent came idle) kv wv lv yv vv av' ps rows /\ Moved part part' w (putAll (w.drewN nq) ga (L.length * 4) [.int .i64 (a.many + 1), .int .i64 (a.sent + sent), .int .i64 (a.came + came), .bool b])) := fun b nq hb => by
  have k : Kept (fun g => g = B \/ part g = 4) w (putAll (w.drewN nq) ga (L.length * 4) [.int .i64 (a.many + 1), .int .i64 (a.sent + sent), .int .i64 (a.came + came), .bool b]) := kept_putAll (.inl (.inr (h.arow.2 ga rfl))) _ _ _ ((Kept.refl _ _).drewN nq)
  have k' : Kept (· = ga) w (putAll (w.drewN nq) ga (L.length * 4) [.int .i64 (a.many + 1), .int .i64 (a.sent + sent), .int .i64 (a.came + came), .bool b]) := kept_putAll (X := fun x => x = ga) (.inl rfl) _ _ _ ((Kept.refl _ _).drewN nq)
  have hr := row_putAll [.int .i64 (a.many + 1), .int .i64 (a.sent + sent), .int .i64 (a.came + came), .bool b] (L.flatMap ansEnc ++ ansEnc a) (L.length * 4) (w.drewN nq) hrow (by show L.length * 4 + 4 <= (L.length + 1) * 4; omega)
  have hx : setAll (L.flatMap ansEnc ++ ansEnc a) (L.length * 4) [.int .i64 (a.many + 1), .int .i64 (a.sent + sent), .int .i64 (a.came + came), .bool b] = (L ++ [(⟨a.many + 1, a.sent + sent, a.came + came, b⟩ : AnsS)]).flatMap ansEnc := by
   rw [List.flatMap_append, <- hfl, setAll_tail [.int .i64 (a.many + 1), .int .i64 (a.sent + sent), .int .i64 (a.came + came), .bool b] (L.flatMap ansEnc) (ansEnc a) rfl]
   simp [ansEnc]
  rw [hx] at hr
  have hB := h.box.kept k' (fun e => by have h7 := h.pB; have h8 := h.arow.2 ga rfl; rw [e] at h7; omega)
  obtain ⟨h5, hm5⟩ := h.reans (ans' := L ++ [⟨a.many + 1, a.sent + sent, a.came + came, b⟩]) (av' := .slice (some ⟨ga, 0, none⟩) s.answers.length ac) k hB (by
   rw [hlen, List.length_append, List.length_singleton]
   exact hr) (fun g e => by
   obtain rfl : ga = g := by simpa [Value.ownBlock] using e
   exact .inl ⟨h.arow.2 ga rfl, hgl⟩)
  rw [HS.out, <- hb]
  exact ⟨_, _, h5, hm5⟩
 clear h hrow hcell hfl ha hlen h1 h2 h3 fz
 obtain ⟨ai, hai⟩ : ∃ ai, a.idle = ai := ⟨_, rfl⟩
 rw [hai] at c3 FIN
 clear hai
 cases ai with
 | true =>
  go_enter Tryz.func150, Tryz.ntmps150
  go_upto_region 0 with fail
  go_quiet (fail)
  go_wp2_with fail
  go_end0
  exact ⟨rfl, FIN.out idle nq (by simp)⟩
 | false =>
  go_enter Tryz.func150, Tryz.ntmps150
  go_upto_region 0 with fail
  go_quiet (fail)
  go_wp2_with fail
  go_end0
  exact ⟨rfl, FIN.out false nq (by simp)⟩
set_option maxHeartbeats 8000000 in
set_option maxRecDepth 100000 in
theorem ref_came_report (m : MsgS) {part : Nat -> Nat} {w : World} {B : Nat} {s : RunS} {kv wv lv yv vv av : Value} {ps : List Nat} {rows : List (Value × List Nat)} (h : RefAtO part w B s kv wv lv yv vv av ps rows) (hs : Shaped s) (h1 : 0 <= m.dst /\ m.dst < s.workers) (L : List AnsS) (a : AnsS) (ha : s.answers = L ++ [a]) (hL : L.length <= 100000000) (g1 : -1000000000000000 <= a.many /\ a.many <= 1000000000000000) (g2 : -1000000000000000000 <= a.sent + m.sent /\ a.sent + m.sent <= 1000000000000000000) (g3 : -1000000000000000000 <= a.came + m.came /\ a.came + m.came <= 1000000000000000000) (hkd : m.kind = 7) :
  Calls Tryz.prog 101 #[.pointer (some ⟨B, 0, none⟩), .agg (msgCells m)] w fun e w' => e = .returned (.tuple #[]) /\ ∃ part' yv' vv' av', RefAtO part' w' B (cameS s m) kv wv lv yv' vv' av' ps rows /\ Moved part part' w w' := by
 obtain ⟨i, x, hi, hx, hi5⟩ := hs.worker h1.1 h1.2
 obtain ⟨p, gw, wc, hp, hwv, hgw, cw, hip, -⟩ := h.ptrW hx
 subst hwv
 obtain ⟨tv, hpb, hpp, htr⟩ := h.wat i p x hp hx
 obtain ⟨ta, tc, htf⟩ := row_form htr.1
 subst htf
 obtain ⟨Z, hZ⟩ : ∃ Z, w.alloc (Obj.cells (msgCells m) 140) = Z := ⟨_, rfl⟩
 have hbZ : Below w.heap.size w Z := by rw [<- hZ]; exact (Below.refl _ _).alloc (Nat.le_refl _) _
 have bM : BoxAt Z w.heap.size 140 (msgCells m) := by rw [<- hZ]; exact BoxAt.new w _ _
 have SZ : Hid (Z.heap.size = w.heap.size + 1) := by show _ = _; rw [<- hZ]; simp
 have bR := h.box.below hbZ h.box.lt
 have bP := hpb.below hbZ hpb.lt
 have b6 : Z.cell? ⟨B, 6, none⟩ = some (.slice (some ⟨gw, 0, none⟩) ps.length wc) := bR.cell (o := 6) rfl
 have cw' := (hbZ.cell (p := ⟨gw, i, none⟩) hgw).trans cw
 have m1 : Z.cell? ⟨w.heap.size, 1, none⟩ = some (.int .i64 (i : Int)) := by rw [<- hi]; exact bM.cell (o := 1) rfl
 have m3 : Z.cell? ⟨w.heap.size, 3, none⟩ = some (.int .i64 7) := by rw [<- hkd]; exact bM.cell (o := 3) rfl
 have i1 : (0 : Int) <= (i : Int) := by omega
 have i2 : (i : Int) < (ps.length : Int) := by omega
 have hbl := h.box.lt
 have hpl := hpb.lt
 have kZ : Kept (fun _ => False) w Z := Kept.of_below hbZ (fun k h1 h2 => by omega)
 have HS : Hid (cameS s m = notedS s m.sent m.came m.idle) := by show _ = _; simp [cameS, hkd]
 have HH := hid_of h
 have HBZ := hid_of hbZ
 have HKZ := hid_of kZ
 have HBM := hid_of bM
 have HPB := hid_of hpb
 have HBP := hid_of bP
 have HTR := hid_of htr
 have HP := hid_of hp
 have HI := hid_of hi
 have m10 := bM.cell (o := 10) rfl
 have m13 := bM.cell (o := 13) rfl
 have m14 := bM.cell (o := 14) rfl
 obtain ⟨h9, hm9⟩ := h.later hbZ
 have HNT : Hid (∀ nq, Calls Tryz.prog 150 #[.pointer (some ⟨B, 0, none⟩), .int .i64 m.sent, .int .i64 m.came, .bool m.idle] (Z.drewN nq) fun e w' => e = .returned (.tuple #[]) /\ ∃ part' av', RefAtO part' w' B (notedS s m.sent m.came m.idle) kv (.slice (some ⟨gw, 0, none⟩) ps.length wc) lv yv vv av' ps rows /\ Moved part part' w w') := fun nq => by
  obtain ⟨h8, hm8⟩ := h9.later (belowDrewN (Below.refl _ Z) nq)
  refine (ref_noted_o h8 L a ha hL m.sent m.came m.idle g1 g2 g3).mono ?_
  rintro e w' ⟨rfl, part', av', h2, hm2⟩
  exact ⟨rfl, part', av', h2, (hm9.trans hm8).trans hm2⟩
 clear h9 hm9 hs ha
 clear h hbZ bR cw kZ bM hpb bP htr hp hi hkd
 go_enter Tryz.func101, Tryz.ntmps101
 go_upto_region 1 with fail
 go_quiet (fail)
 go_wp2_with (go_at_call 150; refine (HNT.out _).mono ?_; rintro e w2 ⟨rfl, part2, av2, h2, hm2⟩)
 go_end0
 rw [HS.out]
 exact ⟨rfl, _, _, _, _, h2, hm2⟩
end Go.Proofs.YteahdfeialekbaaGreatDoor
