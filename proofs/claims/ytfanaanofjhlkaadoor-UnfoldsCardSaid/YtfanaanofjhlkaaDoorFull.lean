/-
  gleanlaw's Book.full says of a list that is full of its mark that it is; no tasks and no messages are the same as none.
-/
import Derived.Test.YtfanaanofjhlkaaDoorValues2
namespace Go.Proofs.YtfanaanofjhlkaaDoor
open Go Go.RowKit

set_option maxHeartbeats 1000000 in
theorem sameT_nil (w : World) : Calls Tryd.prog 27 #[.slice none 0 0, .slice none 0 0] w fun e w' => e = .returned (.bool true) ∧ w' = w := by
  go_enter Tryd.func27, Tryd.ntmps27
  go_wp2_with fail
  go_loopw [5] (fun i wr => i = .int .i64 0 ∧ wr = w) (fun _ _ => 0)
  case atStart => exact ⟨rfl, rfl⟩
  case round =>
    obtain ⟨rfl, rfl⟩ := hrel
    go_wp2_with fail
    go_ret
    exact ⟨rfl, rfl⟩
set_option maxHeartbeats 1000000 in
theorem sameM_nil (w : World) : Calls Tryd.prog 28 #[.slice none 0 0, .slice none 0 0] w fun e w' => e = .returned (.bool true) ∧ w' = w := by
  go_enter Tryd.func28, Tryd.ntmps28
  go_wp2_with fail
  go_loopw [5] (fun i wr => i = .int .i64 0 ∧ wr = w) (fun _ _ => 0)
  case atStart => exact ⟨rfl, rfl⟩
  case round =>
    obtain ⟨rfl, rfl⟩ := hrel
    go_wp2_with fail
    go_ret
    exact ⟨rfl, rfl⟩

set_option maxHeartbeats 2000000 in
theorem full_calls (G : Nat → Nat → Prop) (v : Value) (N : Int) (w : World) (hm : MarkAt w G v N) :
    Calls Tryd.prog 29 #[.agg #[.int .i64 N, v, .slice none 0 0, .slice none 0 0]] w fun e w' => e = .returned (.bool true) ∧ Below w.heap.size w w' := by
  obtain ⟨a, n, cap, rfl, ⟨hn, hN0, hN1⟩, hc⟩ := hm
  have hs := valueHeld
  have hg := valueGuard
  go_enter Tryd.func29, Tryd.ntmps29
  go_upto_region 1 with fail
  obtain ⟨V, hV⟩ : ∃ V, w.alloc (Obj.cells #[.int .i64 N, .slice a n cap, .slice none 0 0, .slice none 0 0] 71) = V := ⟨_, rfl⟩
  have bX : BoxAt V w.heap.size 71 #[.int .i64 N, .slice a n cap, .slice none 0 0, .slice none 0 0] := by rw [← hV]; exact BoxAt.new w _ _
  have hbV : Below w.heap.size w V := by rw [← hV]; exact (Below.refl _ _).alloc (Nat.le_refl _) _
  rw [hV]
  clear hV
  have HBX : Hid (BoxAt V w.heap.size 71 #[.int .i64 N, .slice a n cap, .slice none 0 0, .slice none 0 0]) := bX
  have hwr : IntKind.i64.wrap (-100000 - N) = -100000 - N := IntWalk.i64_in _ (by omega)
  clear bX
  go_wp2_with fail
  go_loopw [3] (fun i wr => ∃ k : Nat, k ≤ n ∧ i = .int .i64 k ∧ Below V.heap.size V wr) (fun i _ => n - (intOf i).toNat)
  case atStart => exact ⟨0, Nat.zero_le _, rfl, Below.refl _ _⟩
  case round =>
    obtain ⟨k, hk, rfl, hbw⟩ := hrel
    rename World => wr
    have hbx := HBX.out.below hbw HBX.out.lt
    have x0 := hbx.cell (o := 0) rfl
    have x1 := hbx.cell (o := 1) rfl
    have x2 := hbx.cell (o := 2) rfl
    have x3 := hbx.cell (o := 3) rfl
    have HBW : Hid (Below V.heap.size V wr) := hbw
    clear hbx hbw
    by_cases hlt : k < n
    · obtain ⟨g, cs, rfl, _, hb, s0, s1⟩ := hc k hlt
      have hb2 := (hb.below hbV hb.lt).below HBW.out (Nat.lt_of_lt_of_le hb.lt hbV.size)
      have y0 := hb2.cell s0
      have y1 := hb2.cell s1
      have i1 : (0 : Int) ≤ (k : Int) := by omega
      have i2 : (k : Int) < (n : Int) := by omega
      clear hc s0 s1 hb hb2
      go_wp2_with fail
      go_quiet (fail)
      go_wp2_with fail
      go_roundw
      case rel => exact ⟨k + 1, by omega, by go_num, below_drewN HBW.out _⟩
      case measure => simp [intOf]; omega
    · clear hc
      go_wp2_with fail
      go_loopw [4] (fun i wx => i = .int .i64 0 ∧ wx = wr) (fun _ _ => 0)
      case atStart => exact ⟨rfl, rfl⟩
      case round =>
        obtain ⟨rfl, rfl⟩ := hrel
        go_wp2_with fail
        go_loopw [5] (fun i wx => i = .int .i64 0 ∧ wx = wr) (fun _ _ => 0)
        case atStart => exact ⟨rfl, rfl⟩
        case round =>
          obtain ⟨rfl, rfl⟩ := hrel
          go_wp2_with fail
          go_ret
          exact ⟨rfl, hbV.trans (HBW.out.mono hbV.size)⟩
end Go.Proofs.YtfanaanofjhlkaaDoor
