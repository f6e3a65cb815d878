/-
  gleanref's Run.Messages, Run.Drop and Run.Twice, the document's own answers.
-/
import Derived.Test.YtdbbejedipfckaaGreatDoorXDrop
import Derived.Test.YtdbbejedipfckaaGreatDoorPutAll
import Derived.Test.YtdbbejedipfckaaGreatDoorRangeG
namespace Go.Proofs.YtdbbejedipfckaaGreatDoor
open Go Go.RowKit

/-- The errors of a message's number. -/
def messageE (s : RunS) (i : Int) : Int := if startE s = 0 ∧ (i < 0 ∨ (s.way.length : Int) ≤ i) then 10 else startE s
def dropS (s : RunS) (i : Int) : RunS × Int := if messageE s i ≠ 0 then (s, messageE s i) else ({ s with way := s.way.take i.toNat ++ s.way.drop (i.toNat + 1) }, 0)
def twiceS (s : RunS) (i : Int) : RunS × Int := if messageE s i ≠ 0 then (s, messageE s i) else (wayS s (s.way[i.toNat]?.getD msg0), 0)
theorem messageE_in {s : RunS} {i : Int} (h : messageE s i = 0) : 0 ≤ i ∧ i < (s.way.length : Int) := by
  unfold messageE at h
  split at h
  · omega
  · rename_i h'
    rw [h] at h'
    omega

theorem ref_messages_nil (w : World) : Calls Tryz.prog 41 #[.pointer none] w fun e w' => e = .returned (.tuple #[.slice none 0 0, .int .i64 1]) ∧ w' = w := by
  go_enter Tryz.func41, Tryz.ntmps41
  go_wp2_with fail
  go_ret2
  exact ⟨rfl, rfl⟩
set_option maxHeartbeats 2000000 in
theorem ref_messages_calls (F : Nat → Prop) (B : Nat) (s : RunS) (w : World) (hr : RefOK F w B s) (hs : Shaped s) :
    Calls Tryz.prog 41 #[.pointer (some ⟨B, 0, none⟩)] w fun e w' => ∃ v, e = .returned (.tuple #[v, .int .i64 0]) ∧ w'.ownsRow w.heap.size 139 15 v s.way.length (s.way.flatMap msgEnc) ∧ Below w.heap.size w w' := by
  obtain ⟨iM, hiM, hzM0, hzM1, hzM2⟩ := info_parts infoMessage
  obtain ⟨part, hF, hat⟩ := hr
  obtain ⟨kv, wv, lv, yv, vv, av, ps, rows, h⟩ := hat.opened
  obtain ⟨ya, yc, hyf⟩ := row_form h.yrow.1
  subst hyf
  have b8 : w.cell? ⟨B, 8, none⟩ = some (.slice ya s.way.length yc) := h.box.cell (o := 8) rfl
  have HROW := hid_of h.yrow.1
  have h60 := hs.way
  clear h hat hF hs
  go_enter Tryz.func41, Tryz.ntmps41
  go_wp2_with (at_builtin; refine wpList_append_row rfl _ _ _ rfl 139 iM _ 15 128 Tryz.underlying53 hiM hzM0 hzM1 hzM2 rfl (by omega) rfl 0 (.slice ya s.way.length yc) s.way.length (s.way.flatMap msgEnc) rfl HROW.out (flat_one msgEnc_one _) (by unfold maxLen; omega) (by omega) ?_; intro wv' w1 hrow1 hk1)
  go_ret2
  exact ⟨_, rfl, hrow1, hk1.below (Nat.le_refl _) (fun _ h => h.elim)⟩

theorem ref_message_nil (i : Int) (w : World) : Calls Tryz.prog 94 #[.pointer none, .int .i64 i] w fun e w' => e = .returned (.int .i64 1) ∧ w' = w := by
  go_enter Tryz.func94, Tryz.ntmps94
  go_wp2_with (go_at_call 100; refine (ref_begins_nil w).mono ?_; rintro e w1 ⟨rfl, rfl⟩)
  go_ret
  exact ⟨rfl, rfl⟩
set_option maxHeartbeats 1000000 in
theorem ref_message_calls (F : Nat → Prop) (B : Nat) (s : RunS) (i : Int) (w : World) (hr : RefOK F w B s) : Calls Tryz.prog 94 #[.pointer (some ⟨B, 0, none⟩), .int .i64 i] w fun e w' => e = .returned (.int .i64 (messageE s i)) ∧ w = w' := by
  have HB : Hid (Calls Tryz.prog 100 #[.pointer (some ⟨B, 0, none⟩)] w fun e w' => e = .returned (.int .i64 (startE s)) ∧ w = w') := (ref_begins_calls F B s w hr).mono fun e w' h => ⟨h.1, h.2.symm⟩
  obtain ⟨part, hF, hat⟩ := hr
  obtain ⟨kv, wv, lv, yv, vv, av, ps, rows, h⟩ := hat.opened
  obtain ⟨ya, yc, hyf⟩ := row_form h.yrow.1
  subst hyf
  have b8 : w.cell? ⟨B, 8, none⟩ = some (.slice ya s.way.length yc) := h.box.cell (o := 8) rfl
  clear h hat hF
  obtain ⟨e, he⟩ : ∃ e, startE s = e := ⟨_, rfl⟩
  obtain ⟨n, hn⟩ : ∃ n, s.way.length = n := ⟨_, rfl⟩
  have hw : messageE s i = if e = 0 ∧ (i < 0 ∨ (n : Int) ≤ i) then 10 else e := by simp [messageE, he, hn]
  rw [hw]
  rw [he] at HB
  rw [hn] at b8
  clear hw he hn
  go_enter Tryz.func94, Tryz.ntmps94
  by_cases h0 : e = 0
  · subst h0
    by_cases h1 : i < 0
    · rw [if_pos ⟨rfl, .inl h1⟩]
      go_wp2_with (go_at_call 100; refine HB.out.mono ?_; rintro e w1 ⟨rfl, rfl⟩)
      go_ret
      exact ⟨rfl, rfl⟩
    · by_cases h2 : (n : Int) ≤ i
      · rw [if_pos ⟨rfl, .inr h2⟩]
        go_wp2_with (go_at_call 100; refine HB.out.mono ?_; rintro e w1 ⟨rfl, rfl⟩)
        go_ret
        exact ⟨rfl, rfl⟩
      · rw [if_neg (by omega)]
        go_wp2_with (go_at_call 100; refine HB.out.mono ?_; rintro e w1 ⟨rfl, rfl⟩)
        go_ret
        exact ⟨rfl, rfl⟩
  · rw [if_neg (by omega)]
    have hb : (e == 0) = false := by rw [beq_eq_false_iff_ne]; exact h0
    go_wp2_with (go_at_call 100; refine HB.out.mono ?_; rintro e w1 ⟨rfl, rfl⟩)
    go_ret
    exact ⟨rfl, rfl⟩
/-- The cells of one message of a list. -/
theorem RefAtO.msg {part : Nat → Nat} {w : World} {B : Nat} {s : RunS} {kv wv lv yv vv av : Value} {ps : List Nat} {rows : List (Value × List Nat)} (h : RefAtO part w B s kv wv lv yv vv av ps rows) {k : Nat} {m : MsgS} (hk : s.way[k]? = some m) :
    ∃ gy yc, yv = .slice (some ⟨gy, 0, none⟩) s.way.length yc ∧ gy < w.heap.size ∧ part gy = 2 ∧ (∀ o u, (msgCells m)[o]? = some u → w.cell? ⟨gy, k * 15 + o, none⟩ = some u) ∧ (∀ j u, (s.way.flatMap msgEnc)[j]? = some u → w.cell? ⟨gy, j, none⟩ = some u) ∧ s.way.length ≤ yc := by
  obtain ⟨gy, yc, hyf, -, hgl⟩ := World.ownsRow.form h.yrow.1 (by have := (List.getElem?_eq_some_iff.1 hk).1; omega)
  subst hyf
  have hc : ∀ j u, (s.way.flatMap msgEnc)[j]? = some u → w.cell? ⟨gy, j, none⟩ = some u := fun j u hj => by
    have := h.yrow.1.cells (g := gy) rfl j u hj
    rwa [addr_add] at this
  refine ⟨gy, yc, rfl, hgl, h.yrow.2 gy rfl, fun o u ho => hc _ _ (flat_get (sz := 15) (enc := msgEnc) (fun _ => rfl) s.way k m o u hk (by simpa [msgEnc] using ho)), hc, ?_⟩
  rcases h.yrow.1.2 with ⟨h0, _⟩ | ⟨g', cap', cur, h0, _, _, h1, _⟩
  · cases h0
  · cases h0; omega

set_option maxHeartbeats 4000000 in
set_option maxRecDepth 100000 in
theorem ref_out_o {part : Nat → Nat} {w : World} {B : Nat} {s : RunS} {kv wv lv yv vv av : Value} {ps : List Nat} {rows : List (Value × List Nat)} (h : RefAtO part w B s kv wv lv yv vv av ps rows) (hn : s.way.length ≤ 1000) (k : Nat) (m : MsgS) (hk : s.way[k]? = some m) :
    Calls Tryz.prog 95 #[.pointer (some ⟨B, 0, none⟩), .int .i64 (k : Int)] w fun e w' => e = .returned (.agg (msgCells m)) ∧ ∃ part' yv', RefAtO part' w' B { s with way := s.way.take k ++ s.way.drop (k + 1) } kv wv lv yv' vv av ps rows ∧ Moved part part' w w' := by
  obtain ⟨iM, hiM, hzM0, hzM1, hzM2⟩ := info_parts infoMessage
  obtain ⟨gy, yc, hyf, hgy, hpy, hcm, hcy, hcap⟩ := h.msg hk
  subst hyf
  have hkl := (List.getElem?_eq_some_iff.1 hk).1
  have b8 : w.cell? ⟨B, 8, none⟩ = some (.slice (some ⟨gy, 0, none⟩) s.way.length yc) := h.box.cell (o := 8) rfl
  have m0 : w.cell? ⟨gy, k * 15, none⟩ = some (.int .i64 m.src) := hcm 0 _ rfl
  have m1 := hcm 1 _ rfl
  have m2 := hcm 2 _ rfl
  have m3 := hcm 3 _ rfl
  have m4 := hcm 4 _ rfl
  have m5 := hcm 5 _ rfl
  have m6 := hcm 6 _ rfl
  have m7 := hcm 7 _ rfl
  have m8 := hcm 8 _ rfl
  have m9 := hcm 9 _ rfl
  have m10 := hcm 10 _ rfl
  have m11 := hcm 11 _ rfl
  have m12 := hcm 12 _ rfl
  have m13 := hcm 13 _ rfl
  have m14 := hcm 14 _ rfl
  have i0 : (0 : Int) ≤ (k : Int) := by omega
  have i1 : (k : Int) < (s.way.length : Int) := by omega
  have hbl := h.box.lt
  have HH := hid_of h
  clear h hcm
  go_enter Tryz.func95, Tryz.ntmps95
  go_upto_region 3 with fail
  obtain ⟨Z, hZ⟩ : ∃ Z, (w.alloc (Obj.cells (msgCells msg0) 139)).alloc (Obj.cells (msgCells m) 139) = Z := ⟨_, rfl⟩
  have hbZ : Below w.heap.size w Z := by rw [← hZ]; exact ((Below.refl _ _).alloc (Nat.le_refl _) _).alloc (by simp) _
  have HB0 : Hid (BoxAt Z w.heap.size 139 (msgCells msg0)) := by rw [← hZ]; exact (BoxAt.new w _ _).alloc _
  have HBM : Hid (BoxAt Z (w.heap.size + 1) 139 (msgCells m)) := by rw [← hZ]; exact boxAt_at _ _ _ _ (by simp)
  have SZ : Hid (Z.heap.size = w.heap.size + 2) := by show _ = _; rw [← hZ]; simp
  have b8' := (hbZ.cell (p := ⟨B, 8, none⟩) hbl).trans b8
  have HBZ := hid_of hbZ
  have HCY : Hid (∀ j u, (s.way.flatMap msgEnc)[j]? = some u → Z.cell? ⟨gy, j, none⟩ = some u) := fun j u hj => (hbZ.cell (p := ⟨gy, j, none⟩) hgy).trans (hcy j u hj)
  have e0 : (w.alloc (Obj.cells (msgCells msg0) 139)).alloc (Obj.cells (msgCells m) 139) = Z := hZ
  simp only [msg0] at e0
  rw [e0]
  clear e0 hZ hbZ b8 m0 m1 m2 m3 m4 m5 m6 m7 m8 m9 m10 m11 m12 m13 m14 hcy
  have j1 : (k : Int) ≤ (yc : Int) := by omega
  have j2 : k ≤ yc := by omega
  have HT1 : Hid (((s.way.take k).flatMap msgEnc).length = k * 15) := by show _ = _; rw [flat_length (sz := 15) (enc := msgEnc) (fun _ => rfl), List.length_take, Nat.min_eq_left (by omega)]
  have HT2 : Hid (((s.way.drop (k + 1)).flatMap msgEnc).length = (s.way.length - (k + 1)) * 15) := by show _ = _; rw [flat_length (sz := 15) (enc := msgEnc) (fun _ => rfl), List.length_drop]
  have HSP : Hid (s.way.flatMap msgEnc = (s.way.take k).flatMap msgEnc ++ (msgEnc m ++ (s.way.drop (k + 1)).flatMap msgEnc)) := by
    show _ = _
    rw [← List.flatMap_cons, ← List.flatMap_append]
    congr 1
    rw [List.getElem?_eq_some_iff] at hk
    obtain ⟨h1, rfl⟩ := hk
    rw [← List.drop_eq_getElem_cons h1, List.take_append_drop]
  have HN1 : Hid (∀ j u, ((s.way.take k).flatMap msgEnc)[j]? = some u → ∃ b, (some ⟨gy, 0, none⟩ : Option Addr) = some b ∧ Z.cell? (b.add j) = some u) := fun j u hj => by
    refine ⟨_, rfl, ?_⟩
    rw [addr_add]
    refine HCY.out j u ?_
    rw [HSP.out, List.getElem?_append_left (List.getElem?_eq_some_iff.1 hj).1]
    exact hj
  have a1 : IntKind.i64.wrap ((k : Int) + 1) = (k : Int) + 1 := IntWalk.i64_in _ (by omega)
  have j3 : (0 : Int) ≤ (k : Int) + 1 := by omega
  have j4 : (k : Int) + 1 ≤ (s.way.length : Int) := by omega
  go_upto_region 4 with (at_builtin; refine wpList_append_any rfl _ _ _ rfl Z.heap.size 139 iM _ 15 128 Tryz.underlying53 hiM hzM0 hzM1 hzM2 rfl (by omega) (.slice none 0 0) 0 [] rfl (World.ownsRow_nil _ _ _ _) (some ⟨gy, 0, none⟩) k yc ((s.way.take k).flatMap msgEnc) rfl HT1.out HN1.out (flat_one msgEnc_one _) (by unfold maxLen; omega) (by omega) (Nat.le_refl _) ?_; intro v1 w1 hown1 hgrow1; rw [Nat.zero_add, List.nil_append] at hown1; obtain ⟨a1', c1', rfl⟩ := row_form hown1; have b8'' := (hgrow1.cell_far ⟨B, 8, none⟩ (by simp; have := SZ.out; omega) (fun e => by cases e)).trans b8')
  have k1 : Kept (fun _ => False) Z w1 := Kept.grown hgrow1 (fun r e => by cases e)
  have HOWN1 := hid_of hown1
  have HK1 := hid_of k1
  have hbl1 : B < w1.heap.size := by have := k1.size; have := SZ.out; omega
  have SZ1 := k1.size
  have hk1 : k + (s.way.length - (k + 1)) ≤ 1000 := by omega
  have hgy1 : gy < Z.heap.size := by have := SZ.out; omega
  have HN2 : Hid (∀ j u, ((s.way.drop (k + 1)).flatMap msgEnc)[j]? = some u → w1.cell? ⟨gy, (k + 1) * 15 + j, none⟩ = some u) := fun j u hj => by
    have h1 := HCY.out ((k + 1) * 15 + j) u (by
      rw [HSP.out, List.getElem?_append_right (by rw [HT1.out]; omega), HT1.out, List.getElem?_append_right (by show 15 ≤ _; omega)]
      have e : (k + 1) * 15 + j - k * 15 - (msgEnc m).length = j := by show _ - 15 = _; omega
      rw [e]
      exact hj)
    exact (HK1.out.cell (p := ⟨gy, (k + 1) * 15 + j, none⟩) hgy1 (fun h => h)).trans h1
  clear k1 hown1 hgrow1 b8'
  go_cut [6] (fun v2 w2 => w2.ownsRow Z.heap.size 139 15 v2 (k + (s.way.length - (k + 1))) ((s.way.take k).flatMap msgEnc ++ (s.way.drop (k + 1)).flatMap msgEnc) ∧ Kept (fun b => Z.heap.size ≤ b) w1 w2)
  case first =>
    by_cases hyc : yc = k + 1
    · subst hyc
      have HD : Hid ((s.way.drop (k + 1)).flatMap msgEnc = []) := by show _ = _; rw [List.drop_eq_nil_of_le (by omega)]; rfl
      go_wp2_with (at_builtin; (refine wpList_append_any rfl _ _ _ rfl Z.heap.size 139 iM _ 15 128 Tryz.underlying53 hiM hzM0 hzM1 hzM2 rfl (by omega) (.slice a1' k c1') k ((s.way.take k).flatMap msgEnc) rfl HOWN1.out (some ⟨gy, 0, none⟩) 0 0 [] rfl rfl (fun j u hj => by simp at hj) (fun u hu => by simp at hu) (by unfold maxLen; omega) (by omega) SZ1 ?_); (intro v2 w2 hown2 hgrow2))
      go_meet
      case rel =>
        refine ⟨?_, Kept.grown hgrow2 (fun r e => (HOWN1.out.lt r e).1)⟩
        rw [HD.out, show s.way.length - (k + 1) = 0 by omega]
        exact hown2
    · have hy1 : ¬ yc - (k + 1) = 0 := by omega
      have hy2 : k + 1 < yc := by omega
      have hy3 : (k : Int) + 1 < (yc : Int) := by omega
      have HN3 : Hid (∀ j u, ((s.way.drop (k + 1)).flatMap msgEnc)[j]? = some u → ∃ b, (some ⟨gy, (k + 1) * 15, none⟩ : Option Addr) = some b ∧ w1.cell? (b.add j) = some u) := fun j u hj => ⟨_, rfl, by
        have e : (⟨gy, (k + 1) * 15, none⟩ : Addr).add j = ⟨gy, (k + 1) * 15 + j, none⟩ := by unfold Addr.add; split <;> simp_all
        rw [e]
        exact HN2.out j u hj⟩
      go_wp2_with (at_builtin; (refine wpList_append_any rfl _ _ _ rfl Z.heap.size 139 iM _ 15 128 Tryz.underlying53 hiM hzM0 hzM1 hzM2 rfl (by omega) (.slice a1' k c1') k ((s.way.take k).flatMap msgEnc) rfl HOWN1.out (some ⟨gy, (k + 1) * 15, none⟩) (s.way.length - (k + 1)) (yc - (k + 1)) ((s.way.drop (k + 1)).flatMap msgEnc) rfl HT2.out HN3.out (flat_one msgEnc_one _) (by unfold maxLen; omega) (by omega) SZ1 ?_); (intro v2 w2 hown2 hgrow2))
      go_meet
      case rel => exact ⟨hown2, Kept.grown hgrow2 (fun r e => (HOWN1.out.lt r e).1)⟩
  case rest =>
  obtain ⟨hown2, k2⟩ := hcut
  rename World => w2
  obtain ⟨a2', c2', h2f⟩ := row_form hown2
  subst h2f
  have k02 : Kept (fun b => Z.heap.size ≤ b) Z w2 := (HK1.out.mono (fun _ _ h => h.elim)).trans k2
  have HB02 : Hid (BoxAt w2 w.heap.size 139 (msgCells msg0)) := HB0.out.kept k02 (by have := SZ.out; omega)
  have HBM2 : Hid (BoxAt w2 (w.heap.size + 1) 139 (msgCells m)) := HBM.out.kept k02 (by have := SZ.out; omega)
  have bR2 : BoxAt w2 B 103 _ := (HH.out.box.below HBZ.out hbl).kept k02 (by have := SZ.out; omega)
  have b8 := bR2.cell (o := 8) rfl
  have f8 := bR2.frozen 8
  have HBR2 := hid_of bR2
  have HOWN2 := hid_of hown2
  have HK02 := hid_of k02
  clear k2 k02 bR2 hown2
  obtain ⟨n2, hn2⟩ : ∃ n2, k + (s.way.length - (k + 1)) = n2 := ⟨_, rfl⟩
  have HN8 := hid_of hn2
  rw [hn2] at HOWN2
  rw [hn2]
  clear hn2
  have fr := HB02.out.frozen
  have nm0 := HBM2.out.cell (o := 0) rfl
  have nm1 := HBM2.out.cell (o := 1) rfl
  have nm2 := HBM2.out.cell (o := 2) rfl
  have nm3 := HBM2.out.cell (o := 3) rfl
  have nm4 := HBM2.out.cell (o := 4) rfl
  have nm5 := HBM2.out.cell (o := 5) rfl
  have nm6 := HBM2.out.cell (o := 6) rfl
  have nm7 := HBM2.out.cell (o := 7) rfl
  have nm8 := HBM2.out.cell (o := 8) rfl
  have nm9 := HBM2.out.cell (o := 9) rfl
  have nm10 := HBM2.out.cell (o := 10) rfl
  have nm11 := HBM2.out.cell (o := 11) rfl
  have nm12 := HBM2.out.cell (o := 12) rfl
  have nm13 := HBM2.out.cell (o := 13) rfl
  have nm14 := HBM2.out.cell (o := 14) rfl
  have z0 := HB02.out.cell (o := 0) rfl
  have z1 := HB02.out.cell (o := 1) rfl
  have z2 := HB02.out.cell (o := 2) rfl
  have z3 := HB02.out.cell (o := 3) rfl
  have z4 := HB02.out.cell (o := 4) rfl
  have z5 := HB02.out.cell (o := 5) rfl
  have z6 := HB02.out.cell (o := 6) rfl
  have z7 := HB02.out.cell (o := 7) rfl
  have z8 := HB02.out.cell (o := 8) rfl
  have z9 := HB02.out.cell (o := 9) rfl
  have z10 := HB02.out.cell (o := 10) rfl
  have z11 := HB02.out.cell (o := 11) rfl
  have z12 := HB02.out.cell (o := 12) rfl
  have z13 := HB02.out.cell (o := 13) rfl
  have z14 := HB02.out.cell (o := 14) rfl
  go_wp2_with fail
  change bodyPost Tryz.prog Tryz.f95 _ Exit.ret _ (putAll (w2.setCell ⟨B, 8, none⟩ (.slice a2' n2 c2')) w.heap.size 0 (msgEnc m))
  have kS : Kept (· = B) w2 (w2.setCell ⟨B, 8, none⟩ (.slice a2' n2 c2')) := (Kept.refl _ _).setCell (.inl (by rfl)) _
  have kA : Kept (fun g => g = B ∨ part g = 2) w (putAll (w2.setCell ⟨B, 8, none⟩ (.slice a2' n2 c2')) w.heap.size 0 (msgEnc m)) := kept_putAll (.inr (Nat.le_refl _)) _ _ _ (((Kept.of_below HBZ.out (fun k h1 h2 => absurd h1 (by omega))).andThen HK02.out (fun b h1 h2 => by have := SZ.out; omega)).trans (kS.mono (fun _ _ h => .inl h)))
  have kP : Kept (· = w.heap.size) (w2.setCell ⟨B, 8, none⟩ (.slice a2' n2 c2')) (putAll (w2.setCell ⟨B, 8, none⟩ (.slice a2' n2 c2')) w.heap.size 0 (msgEnc m)) := kept_putAll (X := fun x => x = w.heap.size) (.inl rfl) _ _ _ (Kept.refl _ _)
  have hbz := box_putAll (msgEnc m) (HB02.out.far ⟨B, 8, none⟩ (.slice a2' n2 c2') (by show w.heap.size ≠ B; omega)) rfl
  generalize putAll (w2.setCell ⟨B, 8, none⟩ (.slice a2' n2 c2')) w.heap.size 0 (msgEnc m) = V at kA kP hbz ⊢
  have hbv : BoxAt V w.heap.size 139 (msgCells m) := hbz
  have q0 := hbv.cell (o := 0) rfl
  have q1 := hbv.cell (o := 1) rfl
  have q2 := hbv.cell (o := 2) rfl
  have q3 := hbv.cell (o := 3) rfl
  have q4 := hbv.cell (o := 4) rfl
  have q5 := hbv.cell (o := 5) rfl
  have q6 := hbv.cell (o := 6) rfl
  have q7 := hbv.cell (o := 7) rfl
  have q8 := hbv.cell (o := 8) rfl
  have q9 := hbv.cell (o := 9) rfl
  have q10 := hbv.cell (o := 10) rfl
  have q11 := hbv.cell (o := 11) rfl
  have q12 := hbv.cell (o := 12) rfl
  have q13 := hbv.cell (o := 13) rfl
  have q14 := hbv.cell (o := 14) rfl
  refine bodyPost_ret (v := .agg (msgCells m)) ?_ rfl ⟨rfl, ?_⟩
  · simp [results, Tryz.results95, go_sem, q0, q1, q2, q3, q4, q5, q6, q7, q8, q9, q10, q11, q12, q13, q14]
  · obtain ⟨h1, h2⟩ := HH.out.reway (way' := s.way.take k ++ s.way.drop (k + 1)) kA ((HBR2.out.setAt 8 _).kept kP (by omega)) (by
      rw [List.flatMap_append, List.length_append, List.length_take, List.length_drop, Nat.min_eq_left (by omega), HN8.out]
      exact ownsRow_base (row_kept (row_kept HOWN2.out kS (fun g' e h => by subst h; exact row_ne HOWN2.out HBR2.out (by decide) e) (Nat.le_refl _)) kP (fun g' e h => by have := (HOWN2.out.lt g' e).1; have := SZ.out; omega) (Nat.le_refl _)) (Nat.zero_le _)) (fun g' e => .inr (by have := (HOWN2.out.lt g' e).1; have := SZ.out; omega))
    exact ⟨_, _, h1, h2⟩
end Go.Proofs.YtdbbejedipfckaaGreatDoor
