/-
  The steps of Run.Drop and Run.Twice: whether there is this message; it is lost, or doubled.
-/
import Derived.Test.YtdbbejedipfckaaGreatDoorXDrop
import Derived.Test.YtdbbejedipfckaaGreatDoorRefMessages
import Derived.Test.YtdbbejedipfckaaGreatDoorRangeG
import Derived.Test.YtdbbejedipfckaaGreatDoorPutAll
import Derived.RangeFuncNested
import Derived.Lib.SliceRun
namespace Go.Proofs.YtdbbejedipfckaaGreatDoor
open Go Go.RowKit

set_option maxHeartbeats 2000000 in
set_option maxRecDepth 100000 in
theorem isMessage1_calls (F : Nat → Prop) (B Br Bw : Nat) (s : RunS) (i : Int) (w : World) (hx : XOK F w B s) (hh : HeldAt w Br Bw B i) :
    Calls Tryz.prog 134 #[.pointer (some ⟨Br, 0, none⟩), .pointer (some ⟨Bw, 0, none⟩)] w fun e w' => e = .returned (.int .i64 (if i < 0 ∨ (s.way.length : Int) ≤ i then 10 else 0)) ∧ Below w.heap.size w w' := by
  obtain ⟨part, -, kv, wv, yv, M, xs, h⟩ := hx
  obtain ⟨ya, yc, hyf⟩ := row_form h.yrow.1
  subst hyf
  have b4 : w.cell? ⟨B, 4, none⟩ = some (.slice ya s.way.length yc) := h.box.cell (o := 4) rfl
  have r0 := hh.1.cell (o := 0) rfl
  have i0 := hh.2.cell (o := 0) rfl
  have HH : Hid (∀ U, Calls Tryz.prog 135 #[.slice ya s.way.length yc, .int .i64 i] U fun e w' => e = .returned (.bool (decide (0 ≤ i ∧ i < (s.way.length : Int)))) ∧ U = w') := fun U => has_calls ya s.way.length yc i U
  obtain ⟨res, hres⟩ : ∃ res : Int, (if i < 0 ∨ (s.way.length : Int) ≤ i then (10 : Int) else 0) = res := ⟨_, rfl⟩
  rw [hres]
  obtain ⟨eb, heb⟩ : ∃ eb, decide (0 ≤ i ∧ i < (s.way.length : Int)) = eb := ⟨_, rfl⟩
  rw [heb] at HH
  have hr : res = if eb then 0 else 10 := by
    rw [← hres, ← heb]
    by_cases hc : 0 ≤ i ∧ i < (s.way.length : Int)
    · rw [if_neg (by omega)]; simp [hc]
    · rw [if_pos (by omega)]; simp [hc]
  clear h hh hres heb
  go_enter Tryz.func134, Tryz.ntmps134
  cases eb
  all_goals
    subst hr
    go_upto_region 1 with fail
    go_still_tail 5, (by kernel_rfl)
    go_wp2_with (go_at_call 135; refine (HH.out _).mono ?_; rintro e w1 ⟨rfl, rfl⟩)
    go_ret
    exact ⟨rfl, (Below.refl _ _).drew⟩
set_option maxHeartbeats 2000000 in
set_option maxRecDepth 100000 in
theorem drop_x (k : Nat) (m : MsgS) {part : Nat → Nat} {w : World} {B M : Nat} {s : RunS} {kv wv yv : Value} {xs : List XW} (h : XAtO part w B s kv wv yv M xs) (hk : s.way[k]? = some m) (hn : s.way.length ≤ 1000) :
    Calls Tryz.prog 137 #[.pointer (some ⟨B, 4, none⟩), .int .i64 (k : Int)] w fun e w' => ∃ v, e = .returned v ∧ (v = .tuple #[] ∧ ∃ part' yv', XAtO part' w' B { s with way := s.way.take k ++ s.way.drop (k + 1) } kv wv yv' M xs ∧ Moved part part' w w') := by
  have hkl := (List.getElem?_eq_some_iff.1 hk).1
  obtain ⟨g, cap, hyf, -, hgl⟩ := World.ownsRow.form h.yrow.1 (by omega)
  subst hyf
  have hpg : part g = 2 := h.yrow.2 g rfl
  have hwr : IntKind.i64.wrap ((k : Int) + 1) = (k : Int) + 1 := IntWalk.i64_in _ (by omega)
  have b4 : w.cell? ⟨B, 4, none⟩ = some (.slice (some ⟨g, 0, none⟩) s.way.length cap) := h.box.cell (o := 4) rfl
  have hgB : g ≠ B := fun e => by have := h.pB; rw [← e] at this; omega
  have HD : Hid (Calls Tryz.prog 154 #[.slice (some ⟨g, 0, none⟩) s.way.length cap, .int .i64 (k : Int), .int .i64 ((k : Int) + 1)] w fun e w' => ∃ v, e = .returned v ∧ (v = .slice (some ⟨g, 0, none⟩) (s.way.length - 1) cap ∧ BoxAt w' B 127 (xrunCells s kv wv (.slice (some ⟨g, 0, none⟩) s.way.length cap) M) ∧ w'.ownsRow 0 139 15 (.slice (some ⟨g, 0, none⟩) (s.way.length - 1) cap) (s.way.length - 1) ((s.way.take k ++ s.way.drop (k + 1)).flatMap msgEnc) ∧ Kept (· = g) w w')) := by
    refine (delete_calls g cap k s.way m w h.yrow.1 hk hn).mono ?_
    rintro e w' ⟨v, rfl, rfl, h1, h2⟩
    exact ⟨_, rfl, rfl, h.box.kept h2 (fun e => hgB e.symm), h1, h2⟩
  have HH := hid_of h
  clear h
  go_enter Tryz.func137, Tryz.ntmps137
  go_wp2_with (go_at_call 154; refine HD.out.mono ?_; rintro e w1 ⟨v1, rfl, rfl, hb1, hr1, hk1⟩; have y4 := hb1.cell (o := 4) rfl; have f4 := hb1.frozen 4)
  go_end0
  have kS : Kept (· = B) w1 (w1.setCell ⟨B, 4, none⟩ (.slice (some ⟨g, 0, none⟩) (s.way.length - 1) cap)) := (Kept.refl _ _).setCell (.inl (by rfl)) _
  have hlen : (s.way.take k ++ s.way.drop (k + 1)).length = s.way.length - 1 := by simp; omega
  obtain ⟨h1, h2⟩ := HH.out.reway (way' := s.way.take k ++ s.way.drop (k + 1)) ((hk1.mono (fun b _ e => by subst e; exact .inr hpg)).trans (kS.mono (fun _ _ h => .inl h))) (hb1.setAt 4 _) (by
    rw [hlen]
    exact row_kept hr1 kS (fun g' e h => by subst h; simp [Value.ownBlock] at e; exact hgB e) (Nat.le_refl _)) (fun g' e => by
    obtain rfl : g = g' := by simpa [Value.ownBlock] using e
    exact .inl ⟨hpg, hgl⟩)
  exact ⟨_, rfl, rfl, _, _, h1, h2⟩
set_option maxHeartbeats 2000000 in
set_option maxRecDepth 100000 in
theorem drop1_calls (F : Nat → Prop) (B Br Bw k : Nat) (m : MsgS) (s : RunS) (w : World) (hx : XOK F w B s) (hk : s.way[k]? = some m) (hn : s.way.length ≤ 1000) (hh : HeldAt w Br Bw B k) :
    Calls Tryz.prog 136 #[.pointer (some ⟨Br, 0, none⟩), .pointer (some ⟨Bw, 0, none⟩)] w (XGives F w B ({ s with way := s.way.take k ++ s.way.drop (k + 1) }, 0)) := by
  obtain ⟨part, hpF, kv, wv, yv, M, xs, h⟩ := hx
  have HD : Hid (Calls Tryz.prog 137 #[.pointer (some ⟨B, 4, none⟩), .int .i64 (k : Int)] w.drew fun e w' => ∃ v, e = .returned v ∧ (v = .tuple #[] ∧ XGives F w B ({ s with way := s.way.take k ++ s.way.drop (k + 1) }, 0) (.returned (.int .i64 0)) w')) := by
    obtain ⟨h2, hm2⟩ := h.later ((Below.refl w.heap.size w).drew)
    refine (drop_x k m h2 hk hn).mono ?_
    rintro e w' ⟨v, rfl, rfl, part', yv', h3, hm3⟩
    obtain ⟨h5, h6⟩ := (hm2.trans hm3).okX h3 hpF
    exact ⟨_, rfl, rfl, rfl, h5, h6⟩
  have r0 := hh.1.cell (o := 0) rfl
  have i0 := hh.2.cell (o := 0) rfl
  clear h hh
  go_enter Tryz.func136, Tryz.ntmps136
  go_upto_region 1 with fail
  go_still_tail 4, (by kernel_rfl)
  go_wp2_with (go_at_call 137; refine HD.out.mono ?_; rintro e w3 ⟨v3, rfl, rfl, hres⟩; have HRES := hid_of hres; clear hres)
  go_ret
  exact HRES.out
end Go.Proofs.YtdbbejedipfckaaGreatDoor
/-
  Run.Drop, Run.Twice and Run.Tick of the project open by one test and one deed.
-/
namespace Go.Proofs.YtdbbejedipfckaaGreatDoor
open Go Go.RowKit

theorem isMessage_calls (rp : Option Addr) (i : Int) (w : World) : Calls Tryz.prog 92 #[.pointer rp, .int .i64 i] w fun e w' => e = .returned (.func (.func 134) #[] #[.pointer (some ⟨w.heap.size, 0, none⟩), .pointer (some ⟨w.heap.size + 1, 0, none⟩)]) ∧ w' = held2 w rp i := by
  go_enter Tryz.func92, Tryz.ntmps92
  go_wp2_with fail
  go_ret
  exact ⟨rfl, rfl⟩
theorem dropMk_calls (rp : Option Addr) (i : Int) (w : World) : Calls Tryz.prog 93 #[.pointer rp, .int .i64 i] w fun e w' => e = .returned (.func (.func 136) #[] #[.pointer (some ⟨w.heap.size, 0, none⟩), .pointer (some ⟨w.heap.size + 1, 0, none⟩)]) ∧ w' = held2 w rp i := by
  go_enter Tryz.func93, Tryz.ntmps93
  go_wp2_with fail
  go_ret
  exact ⟨rfl, rfl⟩
theorem double_calls (rp : Option Addr) (i : Int) (w : World) : Calls Tryz.prog 96 #[.pointer rp, .int .i64 i] w fun e w' => e = .returned (.func (.func 138) #[] #[.pointer (some ⟨w.heap.size, 0, none⟩), .pointer (some ⟨w.heap.size + 1, 0, none⟩)]) ∧ w' = held2 w rp i := by
  go_enter Tryz.func96, Tryz.ntmps96
  go_wp2_with fail
  go_ret
  exact ⟨rfl, rfl⟩
theorem sendAgain_calls (rp : Option Addr) (i : Int) (w : World) : Calls Tryz.prog 98 #[.pointer rp, .int .i64 i] w fun e w' => e = .returned (.func (.func 140) #[] #[.pointer (some ⟨w.heap.size, 0, none⟩), .pointer (some ⟨w.heap.size + 1, 0, none⟩)]) ∧ w' = held2 w rp i := by
  go_enter Tryz.func98, Tryz.ntmps98
  go_wp2_with fail
  go_ret
  exact ⟨rfl, rfl⟩
/-- A step that holds a run and a number, its variables made in W. -/
abbrev stepH (f : Nat) (W : World) : StepV := (f, #[], #[.pointer (some ⟨W.heap.size, 0, none⟩), .pointer (some ⟨W.heap.size + 1, 0, none⟩)])
abbrev stepW (f : Nat) (W : World) : StepV := (f, #[], #[.pointer (some ⟨W.heap.size + 1, 0, none⟩), .pointer (some ⟨W.heap.size, 0, none⟩)])
set_option maxHeartbeats 2000000 in
set_option maxRecDepth 100000 in
theorem drop_opens (rp : Option Addr) (i : Int) (w : World) (R : Ending → World → Prop)
    (h : ∀ W1 W2 W3, held2 w rp i = W1 → held2 W1 rp i = W2 → W2.alloc (Obj.cells (([stepH 134 w] ++ [stepH 136 W1]).map stepVal).toArray 129) = W3 → Calls Tryz.prog 75 #[.pointer rp, .slice (some ⟨W2.heap.size, 0, none⟩) 2 2] W3 fun e w' => (∃ r, e = .returned (.int .i64 r)) ∧ R e w') :
    Calls Tryz.prog 50 #[.pointer rp, .int .i64 i] w R := by
  obtain ⟨W1, h1⟩ : ∃ W1, held2 w rp i = W1 := ⟨_, rfl⟩
  obtain ⟨W2, h2⟩ : ∃ W2, held2 W1 rp i = W2 := ⟨_, rfl⟩
  obtain ⟨W3, h3⟩ : ∃ W3, W2.alloc (Obj.cells (([stepH 134 w] ++ [stepH 136 W1]).map stepVal).toArray 129) = W3 := ⟨_, rfl⟩
  have HC := hid_of (h W1 W2 W3 h1 h2 h3)
  have H1 := hid_of h1
  have H2 := hid_of h2
  have H3 := hid_of h3
  clear h h1 h2 h3
  go_enter Tryz.func50, Tryz.ntmps50
  go_wp2_with (first
    | (go_at_call 92; refine (isMessage_calls rp i w).mono ?_; rintro e a1 ⟨rfl, hq⟩; obtain rfl : W1 = a1 := H1.out.symm.trans hq.symm; clear hq)
    | (go_at_call 93; refine (dropMk_calls rp i W1).mono ?_; rintro e a1 ⟨rfl, hq⟩; obtain rfl : W2 = a1 := H2.out.symm.trans hq.symm; clear hq)
    | (go_at_call 75; refine Calls.at_world H3.out ?_; refine HC.out.mono ?_; rintro e a7 ⟨⟨r, rfl⟩, hr⟩))
  exact hr
theorem x_drop_nil (i : Int) (w : World) : Calls Tryz.prog 50 #[.pointer none, .int .i64 i] w fun e w' => e = .returned (.int .i64 1) ∧ Below w.heap.size w w' := by
  refine drop_opens none i w _ (fun W1 W2 W3 h1 h2 h3 => ?_)
  refine (change_nil W2.heap.size 2 W3).mono ?_
  rintro e w' ⟨rfl, hb⟩
  have g1 := held2_below w none i
  have g2 := held2_below W1 none i
  rw [h1] at g1
  rw [h2] at g2
  have g3 : Below W2.heap.size W2 W3 := by rw [← h3]; exact (Below.refl _ _).alloc (Nat.le_refl _) _
  have z1 := g1.size
  have z2 := g2.size
  have z3 := g3.size
  exact ⟨⟨1, rfl⟩, rfl, ((g1.trans (g2.mono (by omega))).trans (g3.mono (by omega))).trans (hb.mono (by omega))⟩
set_option maxHeartbeats 2000000 in
set_option maxRecDepth 100000 in
theorem twice_opens (rp : Option Addr) (i : Int) (w : World) (R : Ending → World → Prop)
    (h : ∀ W1 W2 W3, held2 w rp i = W1 → held2 W1 rp i = W2 → W2.alloc (Obj.cells (([stepH 134 w] ++ [stepH 138 W1]).map stepVal).toArray 129) = W3 → Calls Tryz.prog 75 #[.pointer rp, .slice (some ⟨W2.heap.size, 0, none⟩) 2 2] W3 fun e w' => (∃ r, e = .returned (.int .i64 r)) ∧ R e w') :
    Calls Tryz.prog 52 #[.pointer rp, .int .i64 i] w R := by
  obtain ⟨W1, h1⟩ : ∃ W1, held2 w rp i = W1 := ⟨_, rfl⟩
  obtain ⟨W2, h2⟩ : ∃ W2, held2 W1 rp i = W2 := ⟨_, rfl⟩
  obtain ⟨W3, h3⟩ : ∃ W3, W2.alloc (Obj.cells (([stepH 134 w] ++ [stepH 138 W1]).map stepVal).toArray 129) = W3 := ⟨_, rfl⟩
  have HC := hid_of (h W1 W2 W3 h1 h2 h3)
  have H1 := hid_of h1
  have H2 := hid_of h2
  have H3 := hid_of h3
  clear h h1 h2 h3
  go_enter Tryz.func52, Tryz.ntmps52
  go_wp2_with (first
    | (go_at_call 92; refine (isMessage_calls rp i w).mono ?_; rintro e a1 ⟨rfl, hq⟩; obtain rfl : W1 = a1 := H1.out.symm.trans hq.symm; clear hq)
    | (go_at_call 96; refine (double_calls rp i W1).mono ?_; rintro e a1 ⟨rfl, hq⟩; obtain rfl : W2 = a1 := H2.out.symm.trans hq.symm; clear hq)
    | (go_at_call 75; refine Calls.at_world H3.out ?_; refine HC.out.mono ?_; rintro e a7 ⟨⟨r, rfl⟩, hr⟩))
  exact hr
theorem x_twice_nil (i : Int) (w : World) : Calls Tryz.prog 52 #[.pointer none, .int .i64 i] w fun e w' => e = .returned (.int .i64 1) ∧ Below w.heap.size w w' := by
  refine twice_opens none i w _ (fun W1 W2 W3 h1 h2 h3 => ?_)
  refine (change_nil W2.heap.size 2 W3).mono ?_
  rintro e w' ⟨rfl, hb⟩
  have g1 := held2_below w none i
  have g2 := held2_below W1 none i
  rw [h1] at g1
  rw [h2] at g2
  have g3 : Below W2.heap.size W2 W3 := by rw [← h3]; exact (Below.refl _ _).alloc (Nat.le_refl _) _
  have z1 := g1.size
  have z2 := g2.size
  have z3 := g3.size
  exact ⟨⟨1, rfl⟩, rfl, ((g1.trans (g2.mono (by omega))).trans (g3.mono (by omega))).trans (hb.mono (by omega))⟩
set_option maxHeartbeats 2000000 in
set_option maxRecDepth 100000 in
theorem tick_opens (rp : Option Addr) (i : Int) (w : World) (R : Ending → World → Prop)
    (h : ∀ W1 W2 W3, held2 w rp i = W1 → held2 W1 rp i = W2 → W2.alloc (Obj.cells (([stepW 115 w] ++ [stepH 140 W1]).map stepVal).toArray 129) = W3 → Calls Tryz.prog 75 #[.pointer rp, .slice (some ⟨W2.heap.size, 0, none⟩) 2 2] W3 fun e w' => (∃ r, e = .returned (.int .i64 r)) ∧ R e w') :
    Calls Tryz.prog 54 #[.pointer rp, .int .i64 i] w R := by
  obtain ⟨W1, h1⟩ : ∃ W1, held2 w rp i = W1 := ⟨_, rfl⟩
  obtain ⟨W2, h2⟩ : ∃ W2, held2 W1 rp i = W2 := ⟨_, rfl⟩
  obtain ⟨W3, h3⟩ : ∃ W3, W2.alloc (Obj.cells (([stepW 115 w] ++ [stepH 140 W1]).map stepVal).toArray 129) = W3 := ⟨_, rfl⟩
  have HC := hid_of (h W1 W2 W3 h1 h2 h3)
  have H1 := hid_of h1
  have H2 := hid_of h2
  have H3 := hid_of h3
  clear h h1 h2 h3
  go_enter Tryz.func54, Tryz.ntmps54
  go_wp2_with (first
    | (go_at_call 72; refine (isWorker_calls rp i w).mono ?_; rintro e a1 ⟨rfl, hq⟩; obtain rfl : W1 = a1 := H1.out.symm.trans hq.symm; clear hq)
    | (go_at_call 98; refine (sendAgain_calls rp i W1).mono ?_; rintro e a1 ⟨rfl, hq⟩; obtain rfl : W2 = a1 := H2.out.symm.trans hq.symm; clear hq)
    | (go_at_call 75; refine Calls.at_world H3.out ?_; refine HC.out.mono ?_; rintro e a7 ⟨⟨r, rfl⟩, hr⟩))
  exact hr
theorem x_tick_nil (i : Int) (w : World) : Calls Tryz.prog 54 #[.pointer none, .int .i64 i] w fun e w' => e = .returned (.int .i64 1) ∧ Below w.heap.size w w' := by
  refine tick_opens none i w _ (fun W1 W2 W3 h1 h2 h3 => ?_)
  refine (change_nil W2.heap.size 2 W3).mono ?_
  rintro e w' ⟨rfl, hb⟩
  have g1 := held2_below w none i
  have g2 := held2_below W1 none i
  rw [h1] at g1
  rw [h2] at g2
  have g3 : Below W2.heap.size W2 W3 := by rw [← h3]; exact (Below.refl _ _).alloc (Nat.le_refl _) _
  have z1 := g1.size
  have z2 := g2.size
  have z3 := g3.size
  exact ⟨⟨1, rfl⟩, rfl, ((g1.trans (g2.mono (by omega))).trans (g3.mono (by omega))).trans (hb.mono (by omega))⟩
end Go.Proofs.YtdbbejedipfckaaGreatDoor
/-
  The step of Run.Twice: a message just like one that there is is put on its way.
-/
namespace Go.Proofs.YtdbbejedipfckaaGreatDoor
open Go Go.RowKit

set_option maxHeartbeats 8000000 in
set_option maxRecDepth 100000 in
theorem double1_calls (F : Nat → Prop) (B Br Bw k : Nat) (m : MsgS) (s : RunS) (w : World) (hx : XOK F w B s) (hk : s.way[k]? = some m) (hn : s.way.length ≤ 1000) (hh : HeldAt w Br Bw B k) :
    Calls Tryz.prog 138 #[.pointer (some ⟨Br, 0, none⟩), .pointer (some ⟨Bw, 0, none⟩)] w (XGives F w B (wayS s m, 0)) := by
  obtain ⟨part, hpF, kv, wv, yv, M, xs, h⟩ := hx
  have hkl := (List.getElem?_eq_some_iff.1 hk).1
  obtain ⟨g, cap, hyf, -, hgl⟩ := World.ownsRow.form h.yrow.1 (by omega)
  subst hyf
  have b4 : w.cell? ⟨B, 4, none⟩ = some (.slice (some ⟨g, 0, none⟩) s.way.length cap) := h.box.cell (o := 4) rfl
  have hcm : ∀ o u, (msgCells m)[o]? = some u → w.cell? ⟨g, k * 15 + o, none⟩ = some u := fun o u ho => by
    have := h.yrow.1.cells (g := g) rfl _ u (flat_get (sz := 15) (enc := msgEnc) (fun _ => rfl) s.way k m o u hk (by simpa [msgEnc] using ho))
    rwa [addr_add] at this
  have m0 : w.cell? ⟨g, k * 15, none⟩ = some (.int .i64 m.src) := hcm 0 _ rfl
  have m1 := hcm 1 _ rfl
  have m2 := hcm 2 _ rfl
  have m3 := hcm 3 _ rfl
  have m4 := hcm 4 _ rfl
  have m5 := hcm 5 _ rfl
  have m6 := hcm 6 _ rfl
  have m7 := hcm 7 _ rfl
  have m8 := hcm 8 _ rfl
  have m9 := hcm 9 _ rfl
  have m10 := hcm 10 _ rfl
  have m11 := hcm 11 _ rfl
  have m12 := hcm 12 _ rfl
  have m13 := hcm 13 _ rfl
  have m14 := hcm 14 _ rfl
  have r0 := hh.1.cell (o := 0) rfl
  have i0 := hh.2.cell (o := 0) rfl
  have hbr : Br < w.heap.size := hh.1.lt
  have hbr' : Br ≠ w.heap.size := by omega
  have r1 : ∀ o, (w.drew.alloc o).cell? ⟨Br, 0, none⟩ = some (.pointer (some ⟨B, 0, none⟩)) := fun o => cell_alloc (w := w.drew) o r0
  have j1 : (0 : Int) ≤ (k : Int) := by omega
  have j2 : (k : Int) < (s.way.length : Int) := by omega
  have HP : Hid (∀ (U : World) (bb : Nat), U = (w.drew).alloc (Obj.cells (msgCells m) 139) → bb = w.heap.size → Calls Tryz.prog 139 #[.pointer (some ⟨B, 4, none⟩), .slice (some ⟨bb, 0, none⟩) 1 1] U fun e w' => ∃ v, e = .returned v ∧ (v = .tuple #[] ∧ XGives F w B (wayS s m, 0) (.returned (.int .i64 0)) w')) := fun U bb hU hbb => by
    subst hU hbb
    obtain ⟨h2, hm2⟩ := h.later (((Below.refl w.heap.size w).drew).alloc (by simp) (Obj.cells (msgCells m) 139))
    refine (put_x m w.heap.size h2 hn (BoxAt.new w.drew _ _)).mono ?_
    rintro e w' ⟨v, rfl, rfl, part', yv', h3, hm3, -⟩
    obtain ⟨h5, h6⟩ := (hm2.trans hm3).okX h3 hpF
    exact ⟨_, rfl, rfl, rfl, h5, h6⟩
  clear h hh hcm
  go_enter Tryz.func138, Tryz.ntmps138
  go_upto_region 1 with fail
  go_region_law (refine step_call2 (by rfl) 139 _ _ _ (by rfl) (.pointer (some ⟨B, 4, none⟩)) (.slice (some ⟨w.heap.size, 0, none⟩) 1 1) (by rfl) (by rfl) (enters_of Tryz.func139 (by kernel_rfl) rfl) (HP.out _ _ rfl rfl) ?_; rintro v9 w9 ⟨rfl, hres⟩; have HRES := hid_of hres; clear hres)
  all_goals
    go_wp2_with fail
    go_ret
    exact HRES.out
end Go.Proofs.YtdbbejedipfckaaGreatDoor
/-
  Run.Drop and Run.Twice of the project, of a run in memory: the document's answer as plain data.
-/
namespace Go.Proofs.YtdbbejedipfckaaGreatDoor
open Go Go.RowKit

theorem messageE_run {s : RunS} (hd : s.done = false) (ho : s.over = false) (t : Int) : messageE s t = if t < 0 ∨ (s.way.length : Int) ≤ t then 10 else 0 := by
  have : startE s = 0 := by simp [startE, hd, ho]
  unfold messageE
  rw [this]
  by_cases h : t < 0 ∨ (s.way.length : Int) ≤ t
  · rw [if_pos ⟨rfl, h⟩, if_pos h]
  · rw [if_neg (fun h' => h h'.2), if_neg h]
theorem messageE_over {s : RunS} (hd : s.done = false) (ho : s.over = true) (t : Int) : messageE s t = 6 := by
  simp [messageE, startE, hd, ho]
theorem x_drop_calls (F : Nat → Prop) (B : Nat) (s : RunS) (i : Int) (w : World) (hx : XOK F w B s) (hs : Shaped s) (hd : s.done = false) :
    Calls Tryz.prog 50 #[.pointer (some ⟨B, 0, none⟩), .int .i64 i] w (XGives F w B (dropS s i)) := by
  refine drop_opens (some ⟨B, 0, none⟩) i w _ (fun W1 W2 W3 h1 h2 h3 => ?_)
  have g1 := held2_below w (some ⟨B, 0, none⟩) i
  have g2 := held2_below W1 (some ⟨B, 0, none⟩) i
  have a1 := held2_at w B i
  have a2 := held2_at W1 B i
  rw [h1] at g1 a1
  rw [h2] at g2 a2
  have g3 : Below W2.heap.size W2 W3 := by rw [← h3]; exact (Below.refl _ _).alloc (Nat.le_refl _) _
  have bL : BoxAt W3 W2.heap.size 129 (([stepH 134 w] ++ [stepH 136 W1]).map stepVal).toArray := by rw [← h3]; exact BoxAt.new W2 _ _
  have z1 := g1.size
  have z2 := g2.size
  have k2 : Below W1.heap.size W1 W3 := g2.trans (g3.mono z2)
  have hb : Below w.heap.size w W3 := g1.trans (k2.mono z1)
  have c1 := a1.below k2
  have c2 := a2.below g3
  clear a1 a2 h1 h2 h3 g1 g2 k2
  have hlow := hx.low
  refine (change_tests F B W2.heap.size s W3 (hx.later hb) [stepH 134 w] [if i < 0 ∨ (s.way.length : Int) ≤ i then 10 else 0] (stepH 136 W1) (dropS s i) w hb hx (by simp) (by simp) 129 bL ?over ?enter ?test ?bad ?last).mono (fun e w' h => ⟨⟨_, h.1⟩, h⟩)
  case over =>
    intro ho
    simp [dropS, messageE_over hd ho]
  case enter =>
    intro f hf' args W
    simp at hf'
    rcases hf' with rfl | rfl
    · exact enters_of Tryz.func134 (by kernel_rfl) rfl args W
    · exact enters_of Tryz.func136 (by kernel_rfl) rfl args W
  case test =>
    intro ho j f e hj he hp W hW
    match j, hj, he with
    | 0, hj, he => cases hj; cases he; exact isMessage1_calls F B _ _ s i W ((hx.later hb).later hW) (c1.below hW)
    | (n + 1), hj, he => simp at hj
  case bad =>
    intro ho j e he hne hp
    have wi := messageE_run hd ho i
    match j, he with
    | 0, he => cases he; simp only [dropS, wi, if_pos hne]
    | (n + 1), he => simp at he
  case last =>
    intro ho hp W hW
    have p0 := hp 0 _ (by simp) rfl
    have wi := messageE_run hd ho i
    rw [p0] at wi
    obtain ⟨q0, q1⟩ := messageE_in wi
    obtain ⟨k, rfl⟩ := Int.eq_ofNat_of_zero_le q0
    obtain ⟨m, hm⟩ : ∃ m, s.way[k]? = some m := ⟨_, List.getElem?_eq_getElem (by omega)⟩
    have hres : dropS s (k : Int) = ({ s with way := s.way.take k ++ s.way.drop (k + 1) }, 0) := by simp [dropS, wi]
    rw [hres]
    have hbW : Below w.heap.size w W := hb.trans (hW.mono hb.size)
    exact drop1_calls _ B _ _ k m s W (hlow.later hbW) hm (by have := hs.way; omega) (c2.below hW)
theorem x_twice_calls (F : Nat → Prop) (B : Nat) (s : RunS) (i : Int) (w : World) (hx : XOK F w B s) (hs : Shaped s) (hd : s.done = false) :
    Calls Tryz.prog 52 #[.pointer (some ⟨B, 0, none⟩), .int .i64 i] w (XGives F w B (twiceS s i)) := by
  refine twice_opens (some ⟨B, 0, none⟩) i w _ (fun W1 W2 W3 h1 h2 h3 => ?_)
  have g1 := held2_below w (some ⟨B, 0, none⟩) i
  have g2 := held2_below W1 (some ⟨B, 0, none⟩) i
  have a1 := held2_at w B i
  have a2 := held2_at W1 B i
  rw [h1] at g1 a1
  rw [h2] at g2 a2
  have g3 : Below W2.heap.size W2 W3 := by rw [← h3]; exact (Below.refl _ _).alloc (Nat.le_refl _) _
  have bL : BoxAt W3 W2.heap.size 129 (([stepH 134 w] ++ [stepH 138 W1]).map stepVal).toArray := by rw [← h3]; exact BoxAt.new W2 _ _
  have z1 := g1.size
  have z2 := g2.size
  have k2 : Below W1.heap.size W1 W3 := g2.trans (g3.mono z2)
  have hb : Below w.heap.size w W3 := g1.trans (k2.mono z1)
  have c1 := a1.below k2
  have c2 := a2.below g3
  clear a1 a2 h1 h2 h3 g1 g2 k2
  have hlow := hx.low
  refine (change_tests F B W2.heap.size s W3 (hx.later hb) [stepH 134 w] [if i < 0 ∨ (s.way.length : Int) ≤ i then 10 else 0] (stepH 138 W1) (twiceS s i) w hb hx (by simp) (by simp) 129 bL ?over ?enter ?test ?bad ?last).mono (fun e w' h => ⟨⟨_, h.1⟩, h⟩)
  case over =>
    intro ho
    simp [twiceS, messageE_over hd ho]
  case enter =>
    intro f hf' args W
    simp at hf'
    rcases hf' with rfl | rfl
    · exact enters_of Tryz.func134 (by kernel_rfl) rfl args W
    · exact enters_of Tryz.func138 (by kernel_rfl) rfl args W
  case test =>
    intro ho j f e hj he hp W hW
    match j, hj, he with
    | 0, hj, he => cases hj; cases he; exact isMessage1_calls F B _ _ s i W ((hx.later hb).later hW) (c1.below hW)
    | (n + 1), hj, he => simp at hj
  case bad =>
    intro ho j e he hne hp
    have wi := messageE_run hd ho i
    match j, he with
    | 0, he => cases he; simp only [twiceS, wi, if_pos hne]
    | (n + 1), he => simp at he
  case last =>
    intro ho hp W hW
    have p0 := hp 0 _ (by simp) rfl
    have wi := messageE_run hd ho i
    rw [p0] at wi
    obtain ⟨q0, q1⟩ := messageE_in wi
    obtain ⟨k, rfl⟩ := Int.eq_ofNat_of_zero_le q0
    obtain ⟨m, hm⟩ : ∃ m, s.way[k]? = some m := ⟨_, List.getElem?_eq_getElem (by omega)⟩
    have hres : twiceS s (k : Int) = (wayS s m, 0) := by simp [twiceS, wi, hm]
    rw [hres]
    have hbW : Below w.heap.size w W := hb.trans (hW.mono hb.size)
    exact double1_calls _ B _ _ k m s W (hlow.later hbW) hm (by have := hs.way; omega) (c2.below hW)
end Go.Proofs.YtdbbejedipfckaaGreatDoor
/-
  A message written into a variable, and operations of a region within a round, one by one.
-/
namespace Go.Proofs.YtdbbejedipfckaaGreatDoor
open Go Go.RowKit
theorem store_msg (b : Nat) (cs : Array Value) (W : World) (hb : BoxAt W b 139 cs) (h15 : cs.size = 15) (m : MsgS) : (storeVar 139 ⟨b, 0, none⟩ (.agg (msgCells m))).run Tryz.prog W = .ok () (W.setCells b 0 (msgEnc m)) := by
  obtain ⟨iM, hiM, hzM0, hzM1, hzM2⟩ := info_parts infoMessage
  have hst := run_storeCells_cells (P := Tryz.prog) b 0 (msgEnc m) 0 W (fun j hj => by
    have hj' : j < 15 := by simpa [msgEnc] using hj
    obtain ⟨v, hv⟩ := get_some (cs := cs) (i := j) (by omega)
    have := hb.cell hv
    simp [this]) (fun j hj => by simpa using hb.frozen j) (fun v hv => msgEnc_one m v hv)
  simp only [Nat.add_zero] at hst
  have hc : (Value.agg (msgCells m)).cells.toList = msgEnc m := rfl
  have hs : (Value.agg (msgCells m)).cells.size = 15 := rfl
  simp [storeVar, sizeOf, typeInfo, hiM, hzM1, hs, hc, hst]
theorem store_op (a : Act) (o : Oper) (x y : Operand) (ho : o.op = Op.store 139 x y) (b : Nat) (cs : Array Value) (W : World) (hb : BoxAt W b 139 cs) (h15 : cs.size = 15) (m : MsgS) (hx : a.eval x = .pointer (some ⟨b, 0, none⟩)) (hy : a.eval y = Value.agg (msgCells m)) : (execOp a.eval o).run Tryz.prog W = .ok .skip (W.setCells b 0 (msgEnc m)) := by
  simp [execOp, ho, hx, hy, Instr.storeAt, Instr.sureAddr, store_msg b cs W hb h15 m]
theorem putAll_setCells : ∀ (us : List Value) (g o : Nat) (W : World), W.setCells g o us = putAll W g o us
  | [], _, _, _ => rfl
  | _ :: r, g, o, _ => putAll_setCells r g (o + 1) _
theorem semAt_wide (ρ : Operand → Value) (o : Oper) : Oper.semAt Fence.wide.round ρ o = execOp ρ o := by
  show Oper.semAt none ρ o = _
  unfold Oper.semAt
  cases o.op <;> rfl
section
variable {F : Fence} {n : Nat} {P : Program} {ops : Array Oper} {Q : Exit → Act → World → Prop} {i : Nat} {rest : List Nat} {o : Oper} {a : Act} {w w' : World}
theorem wpOpsIn_value {v : Value} (ho : ops[i]? = some o) (hw : Region.wanted o (yielded ops a.tmps) = true) (hab : o.about P w a.eval = none) (hr : (o.semAt F.round a.eval).run P w = .ok (.value v) w') (h : wpOpsIn F n P ops Q rest (a.put o.dst v) w') : wpOpsIn F n P ops Q (i :: rest) a w := by
  simp only [wpOpsIn, ho, hw, if_true, Oper.wpIn, hab, hr, Oper.uponIn_value]
  exact ⟨(fun f hf => by cases hf), h⟩
theorem wpOpsIn_skip (ho : ops[i]? = some o) (hw : Region.wanted o (yielded ops a.tmps) = true) (hab : o.about P w a.eval = none) (hr : (o.semAt F.round a.eval).run P w = .ok .skip w') (h : wpOpsIn F n P ops Q rest (a.put o.dst undef) w') : wpOpsIn F n P ops Q (i :: rest) a w := by
  simp only [wpOpsIn, ho, hw, if_true, Oper.wpIn, hab, hr, Oper.uponIn_skip]
  exact ⟨(fun f hf => by cases hf), h⟩
end
end Go.Proofs.YtdbbejedipfckaaGreatDoor
