/-
  A worker's list of tasks, the links of a worker, and a program's copy, as the project makes them.
-/
import Derived.Test.YtgbneeohaboncaaGreatDoorXSmall
import Derived.Conc.SmallLaws
namespace Go.Proofs.YtgbneeohaboncaaGreatDoor
open Go Go.RowKit

set_option maxHeartbeats 1000000 in
theorem tasksNew_calls (room : Int) (v : Value) (l : List TaskS) (w : World) (hv : ListAt 3 taskEnc w v l) (hl : l.length ≤ 1000000) :
    Calls Tryz.prog 102 #[.int .i64 room, v] w fun e w' => ∃ T tv, e = .returned (.pointer (some ⟨T, 0, none⟩)) ∧ BoxAt w' T 167 #[tv, .int .i64 room] ∧ w.heap.size ≤ T ∧ w'.ownsRow w.heap.size 76 3 tv l.length (l.flatMap taskEnc) ∧ Below w.heap.size w w' := by
  have HC := hid_of (cloneT_calls v l w hv hl)
  obtain ⟨va, vc, rfl, -⟩ := hv
  go_enter Tryz.func102, Tryz.ntmps102
  go_wp2_with (go_at_call 123; refine HC.out.mono ?_; rintro e w1 ⟨v1, rfl, hrow1, hb1⟩; obtain ⟨a1, c1, rfl⟩ := row_form hrow1)
  go_ret
  exact ⟨w1.heap.size, _, rfl, BoxAt.new w1 _ _, hb1.size, row_kept hrow1 (Kept.alloc _ _ _) (fun _ _ h => h) (Nat.le_refl _), hb1.alloc hb1.size _⟩

theorem mkChan (w : World) : (Instr.makeChan 189 (.int .i64 4)).run Tryz.prog w = .ok (.chan (some w.heap.size)) (w.alloc (.chan 4 #[] false 0 0 false)) := by
  have hi := infoMessage
  cases h : Tryz.prog.info? 139 with
  | none => rw [h] at hi; cases hi
  | some i =>
    rw [h] at hi
    simp at hi
    exact Conc.run_makeChan Tryz.underlying189 h .i64 4 (by omega) (by rw [hi.2.2]; omega)
attribute [local go_sem] mkChan
set_option maxHeartbeats 1000000 in
set_option maxRecDepth 100000 in
theorem newOut_calls (w : World) : Calls Tryz.prog 124 #[] w fun e w' => ∃ T, e = .returned (.pointer (some ⟨T, 0, none⟩)) ∧ Below w.heap.size w w' := by
  go_enter Tryz.func124, Tryz.ntmps124
  go_wp2_with fail
  go_ret
  exact ⟨_, rfl, ((Below.refl _ _).alloc (Nat.le_refl _) _).alloc (by simp) _⟩
end Go.Proofs.YtgbneeohaboncaaGreatDoor
