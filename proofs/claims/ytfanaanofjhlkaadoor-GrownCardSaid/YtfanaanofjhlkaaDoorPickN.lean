/-
  gleankeep.pick: a number below n.
-/
import Derived.Test.YtfanaanofjhlkaaDoorBasics
namespace Go.Proofs.YtfanaanofjhlkaaDoor
open Go Go.RowKit

set_option maxHeartbeats 400000 in
theorem pick_calls (c n : Int) (hc : -9223372036854775808 ≤ c ∧ c ≤ 9223372036854775807) (hn : 1 ≤ n) (hn2 : n ≤ 100000) (w : World) :
    Calls Tryd.prog 30 #[.int .i64 c, .int .i64 n] w fun e w' => e = .returned (.int .i64 (pickS c n)) ∧ w' = w := by
  have HP : Hid (pickS c n = (if c < 0 then -(c + 1) else c) % n) := rfl
  obtain ⟨hc1, hc2⟩ := hc
  have hb : (n == 0) = false := by rw [beq_eq_false_iff_ne]; omega
  by_cases h : c < 0
  · go_enter Tryd.func30, Tryd.ntmps30
    go_wp2
    go_ret
    refine ⟨?_, rfl⟩
    rw [HP.out, if_pos h, ← Int.tmod_eq_emod_of_nonneg (by omega), Int.neg_tmod]
    rfl
  · go_enter Tryd.func30, Tryd.ntmps30
    go_wp2
    go_ret
    refine ⟨?_, rfl⟩
    rw [HP.out, if_neg (by omega)]
    rfl
end Go.Proofs.YtfanaanofjhlkaaDoor
