/-
  The program's run beside the document's: as long as each does what is asked of both, they stay alike; gleanlaw's pick, tamed, changes and asks.
-/
import Derived.Test.YtgbneeohaboncaaGreatDoorXTasks
import Derived.Test.YtgbneeohaboncaaGreatDoorTakeT
import Derived.Test.YtgbneeohaboncaaGreatDoorStillB
namespace Go.Proofs.YtgbneeohaboncaaGreatDoor
open Go Go.RowKit

/-- What stays true of a run of which no worker but worker 0 ever has a task. -/
structure Alone (s : RunS) (k : Nat) : Prop where
  fits : Fits s
  going : s.done = false
  way : s.way = []
  vals : s.values.length ≤ k
  rest : ∀ i x, s.W[i]? = some x → i ≠ 0 → x.tasks = []
/-- The program's run and the document's, in blocks that F names: both nil, or both of the same state. -/
def TwinAt (F : Nat → Prop) (W : World) (xp wp : Option Addr) (k : Nat) : Prop :=
  (xp = none ∧ wp = none) ∨ ∃ (B1 B2 : Nat) (F1 F2 : Nat → Prop) (s : RunS), xp = some ⟨B1, 0, none⟩ ∧ wp = some ⟨B2, 0, none⟩ ∧ XOK F1 W B1 s ∧ RefOK F2 W B2 s ∧ (∀ b, F1 b → F b ∧ ¬ F2 b) ∧ (∀ b, F2 b → F b) ∧ Alone s k
theorem RefOK.mono {F F' : Nat → Prop} {w : World} {B : Nat} {s : RunS} (h : RefOK F w B s) (hF : ∀ b, b < w.heap.size → F b → F' b) : RefOK F' w B s := h.kept (Kept.refl (fun _ => False) w) (fun b hb h => ⟨fun h => h, hF b hb h⟩)
theorem TwinAt.kept {F F' Y : Nat → Prop} {W W' : World} {xp wp : Option Addr} {k k' : Nat} (h : TwinAt F W xp wp k) (hk : Kept Y W W') (hx : ∀ g, g < W.heap.size → F g → ¬ Y g ∧ F' g) (hkk : k ≤ k') : TwinAt F' W' xp wp k' := by
  rcases h with h | ⟨B1, B2, F1, F2, s, h1, h2, h3, h4, h5, h6, h7⟩
  · exact .inl h
  · refine .inr ⟨B1, B2, fun b => F1 b ∧ b < W.heap.size, fun b => F2 b ∧ b < W.heap.size, s, h1, h2, h3.kept hk (fun g hg hF => ⟨(hx g hg (h5 g hF).1).1, hF, hg⟩), h4.kept hk (fun g hg hF => ⟨(hx g hg (h6 g hF)).1, hF, hg⟩), fun b hb => ⟨(hx b hb.2 (h5 b hb.1).1).2, fun h => (h5 b hb.1).2 h.1⟩, fun b hb => (hx b hb.2 (h6 b hb.1)).2, ⟨h7.fits, h7.going, h7.way, Nat.le_trans h7.vals hkk, h7.rest⟩⟩
theorem Alone.idle {s : RunS} {k : Nat} (h : Alone s k) (i : Int) : i = 0 ∨ (tasksS s i).1 = [] := by
  by_cases h0 : i = 0
  · exact .inl h0
  · refine .inr ?_
    unfold tasksS
    split
    · rfl
    · rename_i hn
      cases hx : s.W[i.toNat]? with
      | none => rfl
      | some x =>
        simp
        exact h.rest _ x hx (by omega)

theorem childrenFrom_good {ks : List KindS} {kind arg : Int} (hp : progB ks kind arg = true) {t : TaskS} (hG : Good ks t ∧ t.arg ≤ 12) : ∀ c ∈ children ks t, Good ks c ∧ c.arg ≤ 12 := by
  intro c hc
  obtain ⟨⟨h0, h1, h2, h3⟩, h4⟩ := hG
  obtain ⟨j, cK, hj, hcc, hka, hl3, hkids, -, -⟩ := kind_facts hp h0 h1
  unfold children at hc
  rw [hka] at hc
  obtain ⟨d, hd, m, rfl, hle⟩ := childrenFrom_mem hc
  obtain ⟨g1, g2, g3, g4⟩ := hkids d hd
  refine ⟨⟨g3, g4, ?_, ?_⟩, ?_⟩
  · dsimp only; omega
  · dsimp only
    rw [kidId_size]
    omega
  · dsimp only; omega
theorem Alone.work {s : RunS} {k : Nat} (h : Alone s k) (i : Int) : Alone (workS s i).1 (k + 1) := by
  have hs : Alone s (k + 1) := ⟨h.fits, h.going, h.way, Nat.le_succ_of_le h.vals, h.rest⟩
  by_cases hw : workerE s i = 0
  · rcases h.idle i with h0 | h0
    · subst h0
      obtain ⟨x, hx⟩ : ∃ x, s.W[0]? = some x := ⟨_, List.getElem?_eq_getElem (by have := h.fits.len; have := h.fits.two; omega)⟩
      rcases List.eq_nil_or_concat x.tasks with hxt | ⟨L, t, hxt⟩
      · have : workS s 0 = (s, 8) := by simp [workS, hw, hx, hxt]
        rw [this]; exact hs
      · rw [List.concat_eq_append] at hxt
        rw [workS_zero hw hx hxt]
        unfold doneS
        split
        · exact ⟨⟨h.fits.len, h.fits.two, h.fits.five, h.fits.rmin, h.fits.rmax, h.fits.few, h.fits.prog, h.fits.good⟩, h.going, h.way, Nat.le_succ_of_le h.vals, h.rest⟩
        · rename_i hroom
          have hgt := h.fits.good x (List.mem_of_getElem? hx)
          have hmem : ∀ y ∈ s.W.set 0 { x with tasks := L ++ children s.ks t }, y ∈ s.W ∨ y = { x with tasks := L ++ children s.ks t } := fun y hy => List.mem_or_eq_of_mem_set hy
          refine ⟨⟨by simpa using h.fits.len, h.fits.two, h.fits.five, h.fits.rmin, h.fits.rmax, fun y hy => ?_, h.fits.prog, fun y hy u hu => ?_⟩, h.going, h.way, ?_, fun j y hy hj => ?_⟩
          · rcases hmem y hy with h' | rfl
            · exact h.fits.few y h'
            · dsimp only; rw [List.length_append]; omega
          · rcases hmem y hy with h' | rfl
            · exact h.fits.good y h' u hu
            · rcases List.mem_append.1 hu with h' | h'
              · exact hgt u (by rw [hxt]; exact List.mem_append_left _ h')
              · exact childrenFrom_good h.fits.prog (hgt t (by rw [hxt]; simp)) u h'
          · dsimp only; rw [putS_length]; have := h.vals; omega
          · have hy' : s.W[j]? = some y := by simpa [List.getElem?_set, show ¬ (0 : Nat) = j by omega] using hy
            exact h.rest j y hy' hj
    · have : workS s i = (s, 8) := by
        have hin : 0 ≤ i ∧ i < s.workers := by
          unfold workerE at hw
          split at hw
          · omega
          · rename_i hh
            rw [hw] at hh
            omega
        obtain ⟨x, hx⟩ : ∃ x, s.W[i.toNat]? = some x := ⟨_, List.getElem?_eq_getElem (by have := h.fits.len; omega)⟩
        have ht : x.tasks = [] := by
          unfold tasksS at h0
          rw [if_neg (by omega)] at h0
          simpa [hx] using h0
        simp [workS, hw, hx, ht]
      rw [this]; exact hs
  · have : workS s i = (s, workerE s i) := by simp [workS, hw]
    rw [this]; exact hs
set_option maxHeartbeats 400000 in
theorem lpick_calls (c n : Int) (hc : -9223372036854775808 ≤ c ∧ c ≤ 9223372036854775807) (hn : 1 ≤ n) (w : World) :
    Calls Tryz.prog 17 #[.int .i64 c, .int .i64 n] w fun e w' => e = .returned (.int .i64 (pickS c n)) ∧ w' = w := by
  have HP : Hid (pickS c n = (if c < 0 then -(c + 1) else c) % n) := rfl
  obtain ⟨hc1, hc2⟩ := hc
  have hb : (n == 0) = false := by rw [beq_eq_false_iff_ne]; omega
  by_cases h : c < 0
  · go_enter Tryz.func17, Tryz.ntmps17
    go_wp2
    go_ret
    refine ⟨?_, rfl⟩
    rw [HP.out, if_pos h, ← Int.tmod_eq_emod_of_nonneg (by omega), Int.neg_tmod]
    rfl
  · go_enter Tryz.func17, Tryz.ntmps17
    go_wp2
    go_ret
    refine ⟨?_, rfl⟩
    rw [HP.out, if_neg (by omega)]
    rfl
end Go.Proofs.YtgbneeohaboncaaGreatDoor
/-
  gleanlaw's twin.tamed makes a step's numbers round; twin.changes and twin.asks do one step on the program and on the document's answer: both answer alike.
-/
namespace Go.Proofs.YtgbneeohaboncaaGreatDoor
open Go Go.RowKit

/-- A step's numbers are numbers. -/
def isI64 (n : Int) : Prop := -9223372036854775808 ≤ n ∧ n ≤ 9223372036854775807
/-- The cells of a step. -/
abbrev opV (k r W V i b c wk rm md : Int) (kv : Value) (pk pa : Int) : Array Value := #[.int .i64 k, .int .i64 r, .int .i64 W, .int .i64 V, .int .i64 i, .int .i64 b, .int .i64 c, .int .i64 wk, .int .i64 rm, .int .i64 md, kv, .int .i64 pk, .int .i64 pa]

theorem box_setAll {g t : Nat} : ∀ (us : List Value) (o : Nat) (W : World) (cs : Array Value), BoxAt W g t cs → ∃ cs', BoxAt (putAll W g o us) g t cs' ∧ cs'.toList = setAll cs.toList o us
  | [], _, _, cs, h => ⟨cs, h, rfl⟩
  | u :: r, o, W, cs, h => by
    obtain ⟨cs', h1, h2⟩ := box_setAll r (o + 1) _ _ (h.setAt o u)
    refine ⟨cs', h1, ?_⟩
    rw [h2, setAll, Array.toList_setIfInBounds]
/-- A block all of whose cells are written. -/
theorem box_putAll {g t : Nat} {W : World} {cs : Array Value} (us : List Value) (h : BoxAt W g t cs) (hn : us.length = cs.size) : BoxAt (putAll W g 0 us) g t us.toArray := by
  obtain ⟨cs', h1, h2⟩ := box_setAll us 0 W cs h
  have e : setAll cs.toList 0 us = us := by
    refine List.ext_getElem? fun i => ?_
    rcases Nat.lt_or_ge i us.length with hi | hi
    · have := setAll_in us cs.toList 0 i hi (by have := Array.length_toList (xs := cs); omega)
      rwa [Nat.zero_add] at this
    · rw [List.getElem?_eq_none (by rw [setAll_length, Array.length_toList]; omega), List.getElem?_eq_none hi]
  rw [e] at h2
  have : cs' = us.toArray := by rw [← h2]
  rw [← this]
  exact h1
theorem below_putAll {n g : Nat} {A : World} (hg : n ≤ g) : ∀ (us : List Value) (o : Nat) (W : World), Below n A W → Below n A (putAll W g o us)
  | [], _, _, h => h
  | u :: r, o, _, h => below_putAll hg r _ _ (h.setCell (p := ⟨g, o, none⟩) hg u)

set_option maxHeartbeats 4000000 in
set_option maxRecDepth 100000 in
theorem tamed_calls (F : Nat → Prop) (xp wp : Option Addr) (m : Nat) (k r W V i b c wk rm md pk pa : Int) (ka : Option Addr) (kn kc : Nat) (w : World) (ht : TwinAt F w xp wp m) (hW : isI64 W) (hV : isI64 V) (hb : isI64 b) (hc : isI64 c) :
    Calls Tryz.prog 19 #[.agg #[.pointer xp, .pointer wp], .agg (opV k r W V i b c wk rm md (.slice ka kn kc) pk pa)] w fun e w' => ∃ W' V', e = .returned (.agg (opV k r W' V' i b c wk rm md (.slice ka kn kc) pk pa)) ∧ Below w.heap.size w w' := by
  obtain ⟨Z, hZ⟩ : ∃ Z, ((w.alloc (Obj.cells #[.pointer xp, .pointer wp] 61)).alloc (Obj.cells (opV k r W V i b c wk rm md (.slice ka kn kc) pk pa) 58)).alloc (Obj.cells (opV 0 0 0 0 0 0 0 0 0 0 (.slice none 0 0) 0 0) 58) = Z := ⟨_, rfl⟩
  have hbZ : Below w.heap.size w Z := by rw [← hZ]; exact (((Below.refl _ _).alloc (Nat.le_refl _) _).alloc (by simp) _).alloc (by simp; omega) _
  have bT : BoxAt Z w.heap.size 61 #[.pointer xp, .pointer wp] := by rw [← hZ]; exact ((BoxAt.new w _ _).alloc _).alloc _
  have bO : BoxAt Z (w.heap.size + 1) 58 (opV k r W V i b c wk rm md (.slice ka kn kc) pk pa) := by rw [← hZ]; exact (boxAt_at _ _ _ _ (by simp)).alloc _
  have bR : BoxAt Z (w.heap.size + 2) 58 (opV 0 0 0 0 0 0 0 0 0 0 (.slice none 0 0) 0 0) := by rw [← hZ]; exact boxAt_at _ _ _ _ (by simp)
  have sZ : Z.heap.size = w.heap.size + 3 := by rw [← hZ]; simp
  rcases ht with ⟨rfl, rfl⟩ | ⟨B1, B2, F1, F2, s, rfl, rfl, -, hr, -, -, hal⟩
  · have t1 := bT.cell (o := 1) rfl
    have HBZ := hid_of hbZ
    have HBR := hid_of bR
    have HBO := hid_of bO
    clear hbZ hW hV hb hc
    have o0 := bO.cell (o := 0) rfl
    have o1 := bO.cell (o := 1) rfl
    have o2 := bO.cell (o := 2) rfl
    have o3 := bO.cell (o := 3) rfl
    have o4 := bO.cell (o := 4) rfl
    have o5 := bO.cell (o := 5) rfl
    have o6 := bO.cell (o := 6) rfl
    have o7 := bO.cell (o := 7) rfl
    have o8 := bO.cell (o := 8) rfl
    have o9 := bO.cell (o := 9) rfl
    have o10 := bO.cell (o := 10) rfl
    have o11 := bO.cell (o := 11) rfl
    have o12 := bO.cell (o := 12) rfl
    have r0 := bR.cell (o := 0) rfl
    have r1 := bR.cell (o := 1) rfl
    have r2 := bR.cell (o := 2) rfl
    have r3 := bR.cell (o := 3) rfl
    have r4 := bR.cell (o := 4) rfl
    have r5 := bR.cell (o := 5) rfl
    have r6 := bR.cell (o := 6) rfl
    have r7 := bR.cell (o := 7) rfl
    have r8 := bR.cell (o := 8) rfl
    have r9 := bR.cell (o := 9) rfl
    have r10 := bR.cell (o := 10) rfl
    have r11 := bR.cell (o := 11) rfl
    have r12 := bR.cell (o := 12) rfl
    have fr := bR.frozen
    clear bT bO bR
    go_enter Tryz.func19, Tryz.ntmps19
    go_wp2_with fail
    have hbz := box_putAll [.int .i64 k, .int .i64 r, .int .i64 W, .int .i64 V, .int .i64 i, .int .i64 b, .int .i64 c, .int .i64 wk, .int .i64 rm, .int .i64 md, .slice ka kn kc, .int .i64 pk, .int .i64 pa] HBR.out rfl
    have q0 := hbz.cell (o := 0) rfl
    have q1 := hbz.cell (o := 1) rfl
    have q2 := hbz.cell (o := 2) rfl
    have q3 := hbz.cell (o := 3) rfl
    have q4 := hbz.cell (o := 4) rfl
    have q5 := hbz.cell (o := 5) rfl
    have q6 := hbz.cell (o := 6) rfl
    have q7 := hbz.cell (o := 7) rfl
    have q8 := hbz.cell (o := 8) rfl
    have q9 := hbz.cell (o := 9) rfl
    have q10 := hbz.cell (o := 10) rfl
    have q11 := hbz.cell (o := 11) rfl
    have q12 := hbz.cell (o := 12) rfl
    refine bodyPost_ret (v := .agg (opV k r W V i b c wk rm md (.slice ka kn kc) pk pa)) ?_ rfl ⟨W, V, rfl, ?_⟩
    · dsimp only [putAll] at q0 q1 q2 q3 q4 q5 q6 q7 q8 q9 q10 q11 q12
      simp [results, Tryz.results19, go_sem, q0, q1, q2, q3, q4, q5, q6, q7, q8, q9, q10, q11, q12]
    · exact below_putAll (show w.heap.size ≤ w.heap.size + 2 by omega) [.int .i64 k, .int .i64 r, .int .i64 W, .int .i64 V, .int .i64 i, .int .i64 b, .int .i64 c, .int .i64 wk, .int .i64 rm, .int .i64 md, .slice ka kn kc, .int .i64 pk, .int .i64 pa] 0 _ HBZ.out
  · obtain ⟨part, -, kv, wv, lv, yv, vv, av, ps, rows, hbR, -, -, -, -, hyr, -⟩ := hr
    have hyn : ∃ a c, yv = .slice a 0 c := by
      obtain ⟨a, c, h⟩ := row_form hyr.1
      rw [hal.way] at h
      exact ⟨a, c, h⟩
    obtain ⟨ya, yc, rfl⟩ := hyn
    have hwk2 := hal.fits.two
    have HTWO : Hid (1 ≤ s.workers) := by show _ ≤ _; omega
    have HZ0 := hid_of hbZ
    have HBT := hid_of bT
    have HBR0 := hid_of bR
    have HRUN := hid_of (hbR.below hbZ hbR.lt)
    have hB2 := hbR.lt
    have HP : Hid (∀ (z : Int), isI64 z → ∀ U, Calls Tryz.prog 17 #[.int .i64 z, .int .i64 s.workers] U fun e w' => ∃ v, e = .returned v ∧ v = .int .i64 (pickS z s.workers) ∧ U = w') := fun z hz U => (lpick_calls z s.workers hz HTWO.out U).mono fun e w' h => ⟨_, h.1, rfl, h.2.symm⟩
    have HST : Hid (∀ U, Kept (· = w.heap.size + 1) Z U → BoxAt U w.heap.size 61 #[.pointer (some ⟨B1, 0, none⟩), .pointer (some ⟨B2, 0, none⟩)] ∧ BoxAt U (w.heap.size + 2) 58 (opV 0 0 0 0 0 0 0 0 0 0 (.slice none 0 0) 0 0) ∧ BoxAt U B2 103 (runCells s kv wv lv (.slice ya 0 yc) vv av) ∧ Below w.heap.size w U) := fun U hU => ⟨HBT.out.kept hU (by omega), HBR0.out.kept hU (by omega), HRUN.out.kept hU (by omega), HZ0.out.trans (hU.below (by omega) (fun b h => by omega))⟩
    have HBO0 := hid_of bO
    have HW := hid_of hW
    have HV := hid_of hV
    have hcn : isI64 c := hc
    have hbn : isI64 b := hb
    clear hbR hyr hal bT bO bR hbZ hW hV hc hb hwk2
    go_enter Tryz.func19, Tryz.ntmps19
    have t1 := HBT.out.cell (o := 1) rfl
    have o5 := HBO0.out.cell (o := 5) rfl
    cases hev : (b.tmod 2 == 0)
    case' false =>
      go_upto_region 6 with fail
      obtain ⟨HBR, HRU, HBZ⟩ : Hid (BoxAt Z (w.heap.size + 2) 58 (opV 0 0 0 0 0 0 0 0 0 0 (.slice none 0 0) 0 0)) ∧ Hid (BoxAt Z B2 103 (runCells s kv wv lv (.slice ya 0 yc) vv av)) ∧ Hid (Below w.heap.size w Z) := ⟨HBR0, HRUN, HZ0⟩
      have HBO := HBO0
      have HTW := HBT
      clear HBO0 HBR0 HRUN HZ0 HST HP HW HV hZ t1 o5 HBT
      obtain ⟨W', rfl⟩ : ∃ W', W' = W := ⟨_, rfl⟩
      obtain ⟨V', rfl⟩ : ∃ V', V' = V := ⟨_, rfl⟩
      obtain ⟨U1, rfl⟩ : ∃ U1, U1 = Z := ⟨_, rfl⟩
    case' true =>
      have o2 := HBO0.out.cell (o := 2) rfl
      have f2 := HBO0.out.frozen 2
      have n0 := HRUN.out.cell (o := 0) rfl
      go_upto_region 4 with fail
      clear hZ
      go_cut [3] from 13 to 22 (fun pv wx => pv = .pointer (some ⟨w.heap.size + 1, 0, none⟩) ∧ Kept (· = w.heap.size + 1) Z wx ∧ BoxAt wx (w.heap.size + 1) 58 (opV k r (pickS W s.workers) V i b c wk rm md (.slice ka kn kc) pk pa))
      case first =>
        go_region_law (refine step_call2 (by rfl) 17 _ _ _ (by rfl) (.int .i64 W) (.int .i64 s.workers) (by rfl) (by rfl) (enters_of Tryz.func17 (by kernel_rfl) rfl) (HP.out W HW.out _) ?_; rintro v9 w9 ⟨rfl, rfl⟩)
        all_goals
          go_wp2_with fail
          go_meet
          case rel => exact ⟨rfl, by first | exact (Kept.refl _ _).setCell (.inl (by rfl)) _ | exact ((Kept.refl _ _).setCell (.inl (by rfl)) _).drew | exact ((Kept.refl _ _).drew).setCell (.inl (by rfl)) _, HBO0.out.setAt 2 _⟩
      case' rest =>
        obtain ⟨rfl, hkc, hbc⟩ := hcut
        obtain ⟨U0, rfl⟩ : ∃ U0, U0 = wc := ⟨_, rfl⟩
        obtain ⟨hT1, hR1, hN1, hB1⟩ := HST.out U0 hkc
        clear o5 o2 f2 n0 t1
        have t1 := hT1.cell (o := 1) rfl
        have n0 := hN1.cell (o := 0) rfl
        have o3 := hbc.cell (o := 3) rfl
        have f3 := hbc.frozen 3
        have HBC := hid_of hbc
        have HKC := hid_of hkc
        clear hT1 hR1 hN1 hB1 hbc hkc
        go_upto_region 5 with fail
        go_cut [3] from 23 to 32 (fun pv wx => pv = .pointer (some ⟨w.heap.size + 1, 0, none⟩) ∧ Kept (· = w.heap.size + 1) Z wx ∧ BoxAt wx (w.heap.size + 1) 58 (opV k r (pickS W s.workers) (pickS V s.workers) i b c wk rm md (.slice ka kn kc) pk pa))
        case first =>
          go_region_law (refine step_call2 (by rfl) 17 _ _ _ (by rfl) (.int .i64 V) (.int .i64 s.workers) (by rfl) (by rfl) (enters_of Tryz.func17 (by kernel_rfl) rfl) (HP.out V HV.out _) ?_; rintro v9 w9 ⟨rfl, rfl⟩)
          all_goals
            go_wp2_with fail
            go_meet
            case rel => exact ⟨rfl, by first | exact HKC.out.setCell (.inl (by rfl)) _ | exact (HKC.out.setCell (.inl (by rfl)) _).drew | exact HKC.out.drew.setCell (.inl (by rfl)) _, HBC.out.setAt 3 _⟩
        case' rest =>
          obtain ⟨rfl, hkc, hbc⟩ := hcut
          obtain ⟨U1, rfl⟩ : ∃ U1, U1 = wc := ⟨_, rfl⟩
          obtain ⟨hT1, hR1, hN1, hB1⟩ := HST.out U1 hkc
          have HBO := hid_of hbc
          have HBR := hid_of hR1
          have HBZ := hid_of hB1
          have HTW := hid_of hT1
          have HRU := hid_of hN1
          clear o3 f3 n0 t1 hT1 hR1 hN1 hB1 hbc hkc HST HP HBC HKC HBO0 HBR0 HRUN HZ0 HBT HW HV
          obtain ⟨W', hW'⟩ : ∃ W', W' = pickS W s.workers := ⟨_, rfl⟩
          rw [← hW'] at HBO
          clear hW'
          obtain ⟨V', hV'⟩ : ∃ V', V' = pickS V s.workers := ⟨_, rfl⟩
          rw [← hV'] at HBO
          clear hV'
    all_goals
      have t1 := HTW.out.cell (o := 1) rfl
      have y8 := HRU.out.cell (o := 8) rfl
      have o0 := HBO.out.cell (o := 0) rfl
      have o1 := HBO.out.cell (o := 1) rfl
      have o2 := HBO.out.cell (o := 2) rfl
      have o3 := HBO.out.cell (o := 3) rfl
      have o4 := HBO.out.cell (o := 4) rfl
      have o5 := HBO.out.cell (o := 5) rfl
      have o6 := HBO.out.cell (o := 6) rfl
      have o7 := HBO.out.cell (o := 7) rfl
      have o8 := HBO.out.cell (o := 8) rfl
      have o9 := HBO.out.cell (o := 9) rfl
      have o10 := HBO.out.cell (o := 10) rfl
      have o11 := HBO.out.cell (o := 11) rfl
      have o12 := HBO.out.cell (o := 12) rfl
      have r0 := HBR.out.cell (o := 0) rfl
      have r1 := HBR.out.cell (o := 1) rfl
      have r2 := HBR.out.cell (o := 2) rfl
      have r3 := HBR.out.cell (o := 3) rfl
      have r4 := HBR.out.cell (o := 4) rfl
      have r5 := HBR.out.cell (o := 5) rfl
      have r6 := HBR.out.cell (o := 6) rfl
      have r7 := HBR.out.cell (o := 7) rfl
      have r8 := HBR.out.cell (o := 8) rfl
      have r9 := HBR.out.cell (o := 9) rfl
      have r10 := HBR.out.cell (o := 10) rfl
      have r11 := HBR.out.cell (o := 11) rfl
      have r12 := HBR.out.cell (o := 12) rfl
      have fr := HBR.out.frozen
      clear HTW HRU
      cases hec : (c.tmod 2 == 0)
      all_goals
        go_wp2_with fail
        have hbz := box_putAll [.int .i64 k, .int .i64 r, .int .i64 W', .int .i64 V', .int .i64 i, .int .i64 b, .int .i64 c, .int .i64 wk, .int .i64 rm, .int .i64 md, .slice ka kn kc, .int .i64 pk, .int .i64 pa] HBR.out rfl
        have q0 := hbz.cell (o := 0) rfl
        have q1 := hbz.cell (o := 1) rfl
        have q2 := hbz.cell (o := 2) rfl
        have q3 := hbz.cell (o := 3) rfl
        have q4 := hbz.cell (o := 4) rfl
        have q5 := hbz.cell (o := 5) rfl
        have q6 := hbz.cell (o := 6) rfl
        have q7 := hbz.cell (o := 7) rfl
        have q8 := hbz.cell (o := 8) rfl
        have q9 := hbz.cell (o := 9) rfl
        have q10 := hbz.cell (o := 10) rfl
        have q11 := hbz.cell (o := 11) rfl
        have q12 := hbz.cell (o := 12) rfl
        refine bodyPost_ret (v := .agg (opV k r W' V' i b c wk rm md (.slice ka kn kc) pk pa)) ?_ rfl ⟨W', V', rfl, ?_⟩
        · dsimp only [putAll] at q0 q1 q2 q3 q4 q5 q6 q7 q8 q9 q10 q11 q12
          simp [results, Tryz.results19, go_sem, q0, q1, q2, q3, q4, q5, q6, q7, q8, q9, q10, q11, q12]
        · exact below_putAll (show w.heap.size ≤ w.heap.size + 2 by omega) [.int .i64 k, .int .i64 r, .int .i64 W', .int .i64 V', .int .i64 i, .int .i64 b, .int .i64 c, .int .i64 wk, .int .i64 rm, .int .i64 md, .slice ka kn kc, .int .i64 pk, .int .i64 pa] 0 _ HBZ.out
end Go.Proofs.YtgbneeohaboncaaGreatDoor
