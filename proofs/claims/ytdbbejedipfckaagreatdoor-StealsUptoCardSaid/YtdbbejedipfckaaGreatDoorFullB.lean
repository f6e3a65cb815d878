/-
  gleanlaw's Book.full says of a book whose list is full of its mark that it is, of whichever sort the list may be.
-/
import Derived.Test.YtdbbejedipfckaaGreatDoorLikeV
import Derived.Test.YtdbbejedipfckaaGreatDoorLikeM
namespace Go.Proofs.YtdbbejedipfckaaGreatDoor
open Go Go.RowKit

set_option maxHeartbeats 8000000 in
set_option maxRecDepth 100000 in
theorem fullB_calls (G : Nat → Nat → Prop) (x : Bk) (w : World) (hm : MarkedB w G x) :
    Calls Tryz.prog 61 #[.agg #[.int .i64 x.1, x.2.1, x.2.2.1, x.2.2.2]] w fun e w' => e = .returned (.bool true) ∧ Below w.heap.size w w' := by
  obtain ⟨N, v, t, m⟩ := x
  obtain ⟨⟨aV, nV, cV, hvV, ⟨hnV, hN0, hN1⟩, hcV⟩, ⟨aT, nT, cT, hvT, ⟨hnT, -, -⟩, hcT⟩, ⟨aM, nM, cM, hvM, ⟨hnM, -, -⟩, hcM⟩⟩ := hm
  dsimp only at hvV hvT hvM hcV hcT hcM hN0 hN1 ⊢
  subst hvV hvT hvM
  have HCV := hid_of hcV
  have HCT := hid_of hcT
  have HCM := hid_of hcM
  clear hcV hcT hcM
  have hsV := heldV
  have hgV := guardV
  have hsT := heldT
  have hgT := guardT
  have hsM := heldM
  have hgM := guardM
  go_enter Tryz.func61, Tryz.ntmps61
  go_upto_region 1 with fail
  obtain ⟨V, hV⟩ : ∃ V, w.alloc (Obj.cells #[.int .i64 N, .slice aV nV cV, .slice aT nT cT, .slice aM nM cM] 106) = V := ⟨_, rfl⟩
  have bX : BoxAt V w.heap.size 106 #[.int .i64 N, .slice aV nV cV, .slice aT nT cT, .slice aM nM cM] := by rw [← hV]; exact BoxAt.new w _ _
  have hbV : Below w.heap.size w V := by rw [← hV]; exact (Below.refl _ _).alloc (Nat.le_refl _) _
  rw [hV]
  clear hV
  have HBX : Hid (BoxAt V w.heap.size 106 #[.int .i64 N, .slice aV nV cV, .slice aT nT cT, .slice aM nM cM]) := bX
  have hwr : IntKind.i64.wrap (-100000 - N) = -100000 - N := IntWalk.i64_in _ (by omega)
  have hwr2 : IntKind.i64.wrap (-N) = -N := IntWalk.i64_in _ (by omega)
  clear bX
  go_wp2_with fail
  go_loopw [3] (fun i wr => ∃ k : Nat, k ≤ nV ∧ i = .int .i64 k ∧ Below V.heap.size V wr) (fun i _ => nV - (intOf i).toNat)
  case atStart => exact ⟨0, Nat.zero_le _, rfl, Below.refl _ _⟩
  case round =>
    skip
    obtain ⟨k, hk, rfl, hbw⟩ := hrel
    rename World => wr
    have hbx := HBX.out.below hbw HBX.out.lt
    have x0 := hbx.cell (o := 0) rfl
    have x1 := hbx.cell (o := 1) rfl
    have x2 := hbx.cell (o := 2) rfl
    have x3 := hbx.cell (o := 3) rfl
    have HBW : Hid (Below V.heap.size V wr) := hbw
    clear hbx hbw
    by_cases hlt : k < nV
    · obtain ⟨g, cs, hga, _, hb, hcc⟩ := HCV.out k hlt
      subst hga
      have hb2 := (hb.below hbV hb.lt).below HBW.out (Nat.lt_of_lt_of_le hb.lt hbV.size)
      have y0 := hb2.cell (hcc 0 _ rfl)
      have y1 := hb2.cell (hcc 1 _ rfl)
      simp only [sortV, Nat.add_zero] at y0 y1
      have i1 : (0 : Int) ≤ (k : Int) := by omega
      have i2 : (k : Int) < (nV : Int) := by omega
      clear hb hb2 hcc
      go_wp2_with fail
      go_quiet (fail)
      go_wp2_with fail
      go_roundw
      case rel => exact ⟨k + 1, by omega, by go_num, below_drewN HBW.out _⟩
      case measure => simp [intOf]; omega
    · go_wp2_with fail
      go_loopw [4] (fun i wr => ∃ k : Nat, k ≤ nT ∧ i = .int .i64 k ∧ Below V.heap.size V wr) (fun i _ => nT - (intOf i).toNat)
      case atStart => exact ⟨0, Nat.zero_le _, rfl, HBW.out⟩
      case round =>
        clear HBW x0 x1 x2 x3
        obtain ⟨k, hk, rfl, hbw⟩ := hrel
        rename World => wr
        have hbx := HBX.out.below hbw HBX.out.lt
        have x0 := hbx.cell (o := 0) rfl
        have x1 := hbx.cell (o := 1) rfl
        have x2 := hbx.cell (o := 2) rfl
        have x3 := hbx.cell (o := 3) rfl
        have HBW : Hid (Below V.heap.size V wr) := hbw
        clear hbx hbw
        by_cases hlt : k < nT
        · obtain ⟨g, cs, hga, _, hb, hcc⟩ := HCT.out k hlt
          subst hga
          have hb2 := (hb.below hbV hb.lt).below HBW.out (Nat.lt_of_lt_of_le hb.lt hbV.size)
          have y0 := hb2.cell (hcc 0 _ rfl)
          have y1 := hb2.cell (hcc 1 _ rfl)
          have y2 := hb2.cell (hcc 2 _ rfl)
          simp only [sortT, Nat.add_zero] at y0 y1 y2
          have i1 : (0 : Int) ≤ (k : Int) := by omega
          have i2 : (k : Int) < (nT : Int) := by omega
          clear hb hb2 hcc
          go_wp2_with fail
          go_quiet (fail)
          go_wp2_with fail
          go_roundw
          case rel => exact ⟨k + 1, by omega, by go_num, below_drewN HBW.out _⟩
          case measure => simp [intOf]; omega
        · go_wp2_with fail
          go_loopw [5] (fun i wr => ∃ k : Nat, k ≤ nM ∧ i = .int .i64 k ∧ Below V.heap.size V wr) (fun i _ => nM - (intOf i).toNat)
          case atStart => exact ⟨0, Nat.zero_le _, rfl, HBW.out⟩
          case round =>
            clear HBW x0 x1 x2 x3
            obtain ⟨k, hk, rfl, hbw⟩ := hrel
            rename World => wr
            have hbx := HBX.out.below hbw HBX.out.lt
            have x0 := hbx.cell (o := 0) rfl
            have x1 := hbx.cell (o := 1) rfl
            have x2 := hbx.cell (o := 2) rfl
            have x3 := hbx.cell (o := 3) rfl
            have HBW : Hid (Below V.heap.size V wr) := hbw
            clear hbx hbw
            by_cases hlt : k < nM
            · obtain ⟨g, cs, hga, _, hb, hcc⟩ := HCM.out k hlt
              subst hga
              have hb2 := (hb.below hbV hb.lt).below HBW.out (Nat.lt_of_lt_of_le hb.lt hbV.size)
              have y0 := hb2.cell (hcc 0 _ rfl)
              have y1 := hb2.cell (hcc 1 _ rfl)
              have y2 := hb2.cell (hcc 2 _ rfl)
              have y3 := hb2.cell (hcc 3 _ rfl)
              have y4 := hb2.cell (hcc 4 _ rfl)
              have y5 := hb2.cell (hcc 5 _ rfl)
              have y6 := hb2.cell (hcc 6 _ rfl)
              have y7 := hb2.cell (hcc 7 _ rfl)
              have y8 := hb2.cell (hcc 8 _ rfl)
              have y9 := hb2.cell (hcc 9 _ rfl)
              have y10 := hb2.cell (hcc 10 _ rfl)
              have y11 := hb2.cell (hcc 11 _ rfl)
              have y12 := hb2.cell (hcc 12 _ rfl)
              have y13 := hb2.cell (hcc 13 _ rfl)
              have y14 := hb2.cell (hcc 14 _ rfl)
              simp only [sortM, Nat.add_zero] at y0 y1 y2 y3 y4 y5 y6 y7 y8 y9 y10 y11 y12 y13 y14
              have i1 : (0 : Int) ≤ (k : Int) := by omega
              have i2 : (k : Int) < (nM : Int) := by omega
              clear hb hb2 hcc
              go_wp2_with fail
              go_quiet (fail)
              go_wp2_with fail
              go_roundw
              case rel => exact ⟨k + 1, by omega, by go_num, below_drewN HBW.out _⟩
              case measure => simp [intOf]; omega
            · go_wp2_with fail
              go_ret
              exact ⟨rfl, hbV.trans (HBW.out.mono hbV.size)⟩
end Go.Proofs.YtdbbejedipfckaaGreatDoor
