/-
  gleanlaw.example makes the document's program, in new memory.
-/
import Derived.Test.YtfanaanofjhlkaaDoorLent
namespace Go.Proofs.YtfanaanofjhlkaaDoor
open Go Go.RowKit

set_option maxHeartbeats 2000000 in
theorem example_calls (w : World) :
    Calls Tryd.prog 6 #[] w fun e w' => ∃ B C, e = .returned (.agg #[.slice (some ⟨C, 0, none⟩) 1 1, .int .i64 0, .int .i64 2]) ∧ BoxAt w' B 46 #[.int .i64 0, .int .i64 1, .int .i64 0, .int .i64 2] ∧ BoxAt w' C 49 #[.int .i64 2, .int .i64 1, .slice (some ⟨B, 0, none⟩) 2 2] ∧ Below w.heap.size w w' := by
  go_enter Tryd.func6, Tryd.ntmps6
  go_wp2_with fail
  obtain ⟨W, hW⟩ : ∃ W, ((w.alloc (Obj.cells #[.slice (some ⟨w.heap.size + 1 + 1, 0, none⟩) 1 1, .int .i64 0, .int .i64 2] 24)).alloc (Obj.cells #[.int .i64 0, .int .i64 1, .int .i64 0, .int .i64 2] 46)).alloc (Obj.cells #[.int .i64 2, .int .i64 1, .slice (some ⟨w.heap.size + 1, 0, none⟩) 2 2] 49) = W := ⟨_, rfl⟩
  have b0 : BoxAt W w.heap.size 24 #[.slice (some ⟨w.heap.size + 1 + 1, 0, none⟩) 1 1, .int .i64 0, .int .i64 2] := by rw [← hW]; exact ((BoxAt.new w _ _).alloc _).alloc _
  have b1 : BoxAt W (w.heap.size + 1) 46 #[.int .i64 0, .int .i64 1, .int .i64 0, .int .i64 2] := by
    rw [← hW]; have := (BoxAt.new (w.alloc (Obj.cells #[.slice (some ⟨w.heap.size + 1 + 1, 0, none⟩) 1 1, .int .i64 0, .int .i64 2] 24)) 46 #[.int .i64 0, .int .i64 1, .int .i64 0, .int .i64 2]).alloc (Obj.cells #[.int .i64 2, .int .i64 1, .slice (some ⟨w.heap.size + 1, 0, none⟩) 2 2] 49)
    simpa only [World.size_alloc] using this
  have b2 : BoxAt W (w.heap.size + 1 + 1) 49 #[.int .i64 2, .int .i64 1, .slice (some ⟨w.heap.size + 1, 0, none⟩) 2 2] := by
    rw [← hW]; have := BoxAt.new ((w.alloc (Obj.cells #[.slice (some ⟨w.heap.size + 1 + 1, 0, none⟩) 1 1, .int .i64 0, .int .i64 2] 24)).alloc (Obj.cells #[.int .i64 0, .int .i64 1, .int .i64 0, .int .i64 2] 46)) 49 #[.int .i64 2, .int .i64 1, .slice (some ⟨w.heap.size + 1, 0, none⟩) 2 2]
    simpa only [World.size_alloc] using this
  have hb : Below w.heap.size w W := by rw [← hW]; exact (((Below.refl _ _).alloc (Nat.le_refl _) _).alloc (by simp) _).alloc (by simp; omega) _
  rw [hW]
  clear hW
  have e0 := b0.cell (o := 0) rfl
  have e1 := b0.cell (o := 1) rfl
  have e2 := b0.cell (o := 2) rfl
  exact bodyPost_ret (v := .agg #[.slice (some ⟨w.heap.size + 1 + 1, 0, none⟩) 1 1, .int .i64 0, .int .i64 2]) (by simp [results, Tryd.results6, go_sem, e0, e1, e2]) rfl ⟨w.heap.size + 1, w.heap.size + 1 + 1, rfl, b1, b2, hb⟩
end Go.Proofs.YtfanaanofjhlkaaDoor
