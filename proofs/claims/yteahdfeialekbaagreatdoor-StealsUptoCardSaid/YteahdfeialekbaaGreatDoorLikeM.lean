/-
  gleanlaw.sameM calls two lists that hold the same the same.
-/
import Derived.Test.YteahdfeialekbaaGreatDoorRefTasks
namespace Go.Proofs.YteahdfeialekbaaGreatDoor
open Go Go.RowKit
theorem heldM : Tryz.prog.stoodInHeld 140 = false := by kernel_rfl
theorem guardM : Tryz.prog.eqGuardType Tryz.prog.depth 140 = false := by kernel_rfl
set_option maxHeartbeats 4000000 in
set_option maxRecDepth 100000 in
theorem likeM_calls (va vb : Value) (l : List MsgS) (w : World) (ha : ListAt 15 msgEnc w va l) (hb : ListAt 15 msgEnc w vb l) (hl : l.length <= 9223372036854775806) :
  Calls Tryz.prog 43 #[va, vb] w fun e w' => e = .returned (.bool true) /\ Below w.heap.size w w' := by
 obtain ⟨a, cap, rfl, hca⟩ := ha
 obtain ⟨b, cap', rfl, hcb⟩ := hb
 have hs := heldM
 have hg := guardM
 go_enter Tryz.func43, Tryz.ntmps43
 go_wp2_with fail
 go_loopw [5] (fun i wr => ∃ k : Nat, k <= l.length /\ i = .int .i64 k /\ Below w.heap.size w wr) (fun i _ => l.length - (intOf i).toNat)
 case atStart => exact ⟨0, Nat.zero_le _, rfl, Below.refl _ _⟩
 case round =>
  obtain ⟨k, hk, rfl, hbw⟩ := hrel
  by_cases hlt : k < l.length
  ·obtain ⟨x, hx⟩ : ∃ x, l[k]? = some x := ⟨_, List.getElem?_eq_getElem hlt⟩
   obtain ⟨g, o, rfl, hgl, hc⟩ := hca k x hx
   obtain ⟨g', o', rfl, hgl', hd⟩ := hcb k x hx
   have c0 := (hbw.cell (p := ⟨g, o + k * 15 + 0, none⟩) hgl).trans (hc 0 _ rfl)
   have d0 := (hbw.cell (p := ⟨g', o' + k * 15 + 0, none⟩) hgl').trans (hd 0 _ rfl)
   have c1 := (hbw.cell (p := ⟨g, o + k * 15 + 1, none⟩) hgl).trans (hc 1 _ rfl)
   have d1 := (hbw.cell (p := ⟨g', o' + k * 15 + 1, none⟩) hgl').trans (hd 1 _ rfl)
   have c2 := (hbw.cell (p := ⟨g, o + k * 15 + 2, none⟩) hgl).trans (hc 2 _ rfl)
   have d2 := (hbw.cell (p := ⟨g', o' + k * 15 + 2, none⟩) hgl').trans (hd 2 _ rfl)
   have c3 := (hbw.cell (p := ⟨g, o + k * 15 + 3, none⟩) hgl).trans (hc 3 _ rfl)
   have d3 := (hbw.cell (p := ⟨g', o' + k * 15 + 3, none⟩) hgl').trans (hd 3 _ rfl)
   have c4 := (hbw.cell (p := ⟨g, o + k * 15 + 4, none⟩) hgl).trans (hc 4 _ rfl)
   have d4 := (hbw.cell (p := ⟨g', o' + k * 15 + 4, none⟩) hgl').trans (hd 4 _ rfl)
   have c5 := (hbw.cell (p := ⟨g, o + k * 15 + 5, none⟩) hgl).trans (hc 5 _ rfl)
   have d5 := (hbw.cell (p := ⟨g', o' + k * 15 + 5, none⟩) hgl').trans (hd 5 _ rfl)
   have c6 := (hbw.cell (p := ⟨g, o + k * 15 + 6, none⟩) hgl).trans (hc 6 _ rfl)
   have d6 := (hbw.cell (p := ⟨g', o' + k * 15 + 6, none⟩) hgl').trans (hd 6 _ rfl)
   have c7 := (hbw.cell (p := ⟨g, o + k * 15 + 7, none⟩) hgl).trans (hc 7 _ rfl)
   have d7 := (hbw.cell (p := ⟨g', o' + k * 15 + 7, none⟩) hgl').trans (hd 7 _ rfl)
   have c8 := (hbw.cell (p := ⟨g, o + k * 15 + 8, none⟩) hgl).trans (hc 8 _ rfl)
   have d8 := (hbw.cell (p := ⟨g', o' + k * 15 + 8, none⟩) hgl').trans (hd 8 _ rfl)
   have c9 := (hbw.cell (p := ⟨g, o + k * 15 + 9, none⟩) hgl).trans (hc 9 _ rfl)
   have d9 := (hbw.cell (p := ⟨g', o' + k * 15 + 9, none⟩) hgl').trans (hd 9 _ rfl)
   have c10 := (hbw.cell (p := ⟨g, o + k * 15 + 10, none⟩) hgl).trans (hc 10 _ rfl)
   have d10 := (hbw.cell (p := ⟨g', o' + k * 15 + 10, none⟩) hgl').trans (hd 10 _ rfl)
   have c11 := (hbw.cell (p := ⟨g, o + k * 15 + 11, none⟩) hgl).trans (hc 11 _ rfl)
   have d11 := (hbw.cell (p := ⟨g', o' + k * 15 + 11, none⟩) hgl').trans (hd 11 _ rfl)
   have c12 := (hbw.cell (p := ⟨g, o + k * 15 + 12, none⟩) hgl).trans (hc 12 _ rfl)
   have d12 := (hbw.cell (p := ⟨g', o' + k * 15 + 12, none⟩) hgl').trans (hd 12 _ rfl)
   have c13 := (hbw.cell (p := ⟨g, o + k * 15 + 13, none⟩) hgl).trans (hc 13 _ rfl)
   have d13 := (hbw.cell (p := ⟨g', o' + k * 15 + 13, none⟩) hgl').trans (hd 13 _ rfl)
   have c14 := (hbw.cell (p := ⟨g, o + k * 15 + 14, none⟩) hgl).trans (hc 14 _ rfl)
   have d14 := (hbw.cell (p := ⟨g', o' + k * 15 + 14, none⟩) hgl').trans (hd 14 _ rfl)
   rw [Nat.add_zero] at c0 d0
   have i1 : (0 : Int) <= (k : Int) := by omega
   have i2 : (k : Int) < (l.length : Int) := by omega
   clear hca hcb hc hd
   go_wp2_with fail
   go_quiet (fail)
   go_wp2_with fail
   go_roundw
   case rel => exact ⟨k + 1, by omega, by go_num, below_drewN hbw _⟩
   case measure => simp [intOf]; omega
  ·go_wp2_with fail
   go_ret
   exact ⟨rfl, hbw⟩
end Go.Proofs.YteahdfeialekbaaGreatDoor
