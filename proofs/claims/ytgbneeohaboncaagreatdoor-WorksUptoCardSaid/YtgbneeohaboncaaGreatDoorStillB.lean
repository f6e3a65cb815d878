/-
  gleanlaw's Book.full says of a book whose list is full of its mark that it is, of whichever sort the list may be.
-/
import Derived.Test.YtgbneeohaboncaaGreatDoorLikeM
namespace Go.Proofs.YtgbneeohaboncaaGreatDoor
open Go Go.RowKit

set_option maxHeartbeats 8000000 in
set_option maxRecDepth 100000 in
theorem fullB_calls (G : Nat → Nat → Prop) (x : Bk) (w : World) (hm : MarkedB w G x) :
    Calls Tryz.prog 60 #[.agg #[.int .i64 x.1, x.2.1, x.2.2.1, x.2.2.2]] w fun e w' => e = .returned (.bool true) ∧ Below w.heap.size w w' := by
  obtain ⟨N, v, t, m⟩ := x
  obtain ⟨⟨aV, nV, cV, hvV, ⟨hnV, hN0, hN1⟩, hcV⟩, ⟨aT, nT, cT, hvT, ⟨hnT, -, -⟩, hcT⟩, ⟨aM, nM, cM, hvM, ⟨hnM, -, -⟩, hcM⟩⟩ := hm
  dsimp only at hvV hvT hvM hcV hcT hcM hN0 hN1 ⊢
  subst hvV hvT hvM
  have HCV := hid_of hcV
  have HCT := hid_of hcT
  have HCM := hid_of hcM
  clear hcV hcT hcM
  have hsV := heldV
  have hgV := guardV
  have hsT := heldT
  have hgT := guardT
  have hsM := heldM
  have hgM := guardM
  go_enter Tryz.func60, Tryz.ntmps60
  go_upto_region 1 with fail
  obtain ⟨V, hV⟩ : ∃ V, w.alloc (Obj.cells #[.int .i64 N, .slice aV nV cV, .slice aT nT cT, .slice aM nM cM] 106) = V := ⟨_, rfl⟩
  have bX : BoxAt V w.heap.size 106 #[.int .i64 N, .slice aV nV cV, .slice aT nT cT, .slice aM nM cM] := by rw [← hV]; exact BoxAt.new w _ _
  have hbV : Below w.heap.size w V := by rw [← hV]; exact (Below.refl _ _).alloc (Nat.le_refl _) _
  rw [hV]
  clear hV
  have HBX : Hid (BoxAt V w.heap.size 106 #[.int .i64 N, .slice aV nV cV, .slice aT nT cT, .slice aM nM cM]) := bX
  have hwr : IntKind.i64.wrap (-100000 - N) = -100000 - N := IntWalk.i64_in _ (by omega)
  have hwr2 : IntKind.i64.wrap (-N) = -N := IntWalk.i64_in _ (by omega)
  clear bX
  go_wp2_with fail
  go_loopw [3] (fun i wr => ∃ k : Nat, k ≤ nV ∧ i = .int .i64 k ∧ Below V.heap.size V wr) (fun i _ => nV - (intOf i).toNat)
  case atStart => exact ⟨0, Nat.zero_le _, rfl, Below.refl _ _⟩
  case round =>
    skip
    obtain ⟨k, hk, rfl, hbw⟩ := hrel
    rename World => wr
    have hbx := HBX.out.below hbw HBX.out.lt
    have x0 := hbx.cell (o := 0) rfl
    have x1 := hbx.cell (o := 1) rfl
    have x2 := hbx.cell (o := 2) rfl
    have x3 := hbx.cell (o := 3) rfl
    have HBW : Hid (Below V.heap.size V wr) := hbw
    clear hbx hbw
    by_cases hlt : k < nV
    · obtain ⟨g, cs, hga, _, hb, hcc⟩ := HCV.out k hlt
      subst hga
      have hb2 := (hb.below hbV hb.lt).below HBW.out (Nat.lt_of_lt_of_le hb.lt hbV.size)
      have y0 := hb2.cell (hcc 0 _ rfl)
      have y1 := hb2.cell (hcc 1 _ rfl)
      simp only [sortV, Nat.add_zero] at y0 y1
      have i1 : (0 : Int) ≤ (k : Int) := by omega
      have i2 : (k : Int) < (nV : Int) := by omega
      clear hb hb2 hcc
      go_wp2_with fail
      go_quiet (fail)
      go_wp2_with fail
      go_roundw
      case rel => exact ⟨k + 1, by omega, by go_num, below_drewN HBW.out _⟩
      case measure => simp [intOf]; omega
    · go_wp2_with fail
      go_loopw [4] (fun i wr => ∃ k : Nat, k ≤ nT ∧ i = .int .i64 k ∧ Below V.heap.size V wr) (fun i _ => nT - (intOf i).toNat)
      case atStart => exact ⟨0, Nat.zero_le _, rfl, HBW.out⟩
      case round =>
        clear HBW x0 x1 x2 x3
        obtain ⟨k, hk, rfl, hbw⟩ := hrel
        rename World => wr
        have hbx := HBX.out.below hbw HBX.out.lt
        have x0 := hbx.cell (o := 0) rfl
        have x1 := hbx.cell (o := 1) rfl
        have x2 := hbx.cell (o := 2) rfl
        have x3 := hbx.cell (o := 3) rfl
        have HBW : Hid (Below V.heap.size V wr) := hbw
        clear hbx hbw
        by_cases hlt : k < nT
        · obtain ⟨g, cs, hga, _, hb, hcc⟩ := HCT.out k hlt
          subst hga
          have hb2 := (hb.below hbV hb.lt).below HBW.out (Nat.lt_of_lt_of_le hb.lt hbV.size)
          have y0 := hb2.cell (hcc 0 _ rfl)
          have y1 := hb2.cell (hcc 1 _ rfl)
          have y2 := hb2.cell (hcc 2 _ rfl)
          simp only [sortT, Nat.add_zero] at y0 y1 y2
          have i1 : (0 : Int) ≤ (k : Int) := by omega
          have i2 : (k : Int) < (nT : Int) := by omega
          clear hb hb2 hcc
          go_wp2_with fail
          go_quiet (fail)
          go_wp2_with fail
          go_roundw
          case rel => exact ⟨k + 1, by omega, by go_num, below_drewN HBW.out _⟩
          case measure => simp [intOf]; omega
        · go_wp2_with fail
          go_loopw [5] (fun i wr => ∃ k : Nat, k ≤ nM ∧ i = .int .i64 k ∧ Below V.heap.size V wr) (fun i _ => nM - (intOf i).toNat)
          case atStart => exact ⟨0, Nat.zero_le _, rfl, HBW.out⟩
          case round =>
            clear HBW x0 x1 x2 x3
            obtain ⟨k, hk, rfl, hbw⟩ := hrel
            rename World => wr
            have hbx := HBX.out.below hbw HBX.out.lt
            have x0 := hbx.cell (o := 0) rfl
            have x1 := hbx.cell (o := 1) rfl
            have x2 := hbx.cell (o := 2) rfl
            have x3 := hbx.cell (o := 3) rfl
            have HBW : Hid (Below V.heap.size V wr) := hbw
            clear hbx hbw
            by_cases hlt : k < nM
            · obtain ⟨g, cs, hga, _, hb, hcc⟩ := HCM.out k hlt
              subst hga
              have hb2 := (hb.below hbV hb.lt).below HBW.out (Nat.lt_of_lt_of_le hb.lt hbV.size)
              have y0 := hb2.cell (hcc 0 _ rfl)
              have y1 := hb2.cell (hcc 1 _ rfl)
              have y2 := hb2.cell (hcc 2 _ rfl)
              have y3 := hb2.cell (hcc 3 _ rfl)
              have y4 := hb2.cell (hcc 4 _ rfl)
              have y5 := hb2.cell (hcc 5 _ rfl)
              have y6 := hb2.cell (hcc 6 _ rfl)
              have y7 := hb2.cell (hcc 7 _ rfl)
              have y8 := hb2.cell (hcc 8 _ rfl)
              have y9 := hb2.cell (hcc 9 _ rfl)
              have y10 := hb2.cell (hcc 10 _ rfl)
              have y11 := hb2.cell (hcc 11 _ rfl)
              have y12 := hb2.cell (hcc 12 _ rfl)
              have y13 := hb2.cell (hcc 13 _ rfl)
              have y14 := hb2.cell (hcc 14 _ rfl)
              simp only [sortM, Nat.add_zero] at y0 y1 y2 y3 y4 y5 y6 y7 y8 y9 y10 y11 y12 y13 y14
              have i1 : (0 : Int) ≤ (k : Int) := by omega
              have i2 : (k : Int) < (nM : Int) := by omega
              clear hb hb2 hcc
              go_wp2_with fail
              go_quiet (fail)
              go_wp2_with fail
              go_roundw
              case rel => exact ⟨k + 1, by omega, by go_num, below_drewN HBW.out _⟩
              case measure => simp [intOf]; omega
            · go_wp2_with fail
              go_ret
              exact ⟨rfl, hbV.trans (HBW.out.mono hbV.size)⟩
end Go.Proofs.YtgbneeohaboncaaGreatDoor
/-
  gleanlaw's Books.still says yes while the books are in order: every list that was booked is full of its mark, and every list that was kept is as it came.
-/
namespace Go.Proofs.YtgbneeohaboncaaGreatDoor
open Go Go.RowKit

set_option maxHeartbeats 4000000 in
set_option maxRecDepth 100000 in
theorem stillB_calls (F : Nat → Prop) (B N came : Nat) (w : World) (hI : BooksOK F w B N came) (hN : N ≤ 300000000000) :
    Calls Tryz.prog 21 #[.pointer (some ⟨B, 0, none⟩)] w fun e w' => e = .returned (.bool true) ∧ Below w.heap.size w w' := by
  obtain ⟨lab, kV, wV, kT, wT, kM, wM, lV, lT, lM, bs, hlab, hbs, hX, ⟨hkV, -, hwV, -, hnV⟩, ⟨hkT, -, hwT, -, hnT⟩, ⟨hkM, -, hwM, -, hnM⟩⟩ := hI
  obtain ⟨vA, hbx, hr, -, -, hmk⟩ := hX
  have HBX : Hid (∀ W, Below w.heap.size w W → BoxAt W B 56 (booksCells N came kV wV kT wT kM wM vA)) := fun W hW => hbx.below hW hbx.lt
  have HR : Hid (∀ W, Below w.heap.size w W → W.ownsRow 0 106 4 vA bs.length (bkCells bs)) := fun W hW => row_below hr hW (fun g e => (hr.lt g e).2)
  have HM : Hid (∀ W, Below w.heap.size w W → ∀ x ∈ bs, MarkedB W (fun b _ => lab b = 1) x) := fun W hW x hx => (hmk x hx).kept (Kept.of_below hW (X := fun b => w.heap.size ≤ b) (fun _ _ h => h)) (fun g n t cs _ hb _ h => by have := hb.lt; omega) (fun _ _ _ _ _ _ h => h)
  have b3 := hbx.cell (o := 3) rfl
  have b4 := hbx.cell (o := 4) rfl
  have HS1 : Hid (∀ W, Below w.heap.size w W → Calls Tryz.prog 44 #[kV, wV] W fun e w' => ∃ v, e = .returned v ∧ v = .bool true ∧ Below w.heap.size w w') := fun W hW =>
    (likeV_calls _ _ lV W ((list_of_row (sz := 2) (enc := valEnc) (fun _ => rfl) hkV rfl).below hW (Nat.le_refl _)) ((list_of_row (sz := 2) (enc := valEnc) (fun _ => rfl) hwV rfl).below hW (Nat.le_refl _)) (by omega)).mono fun e w' h => ⟨_, h.1, rfl, hW.trans (h.2.mono hW.size)⟩
  have HS2 : Hid (∀ W, Below w.heap.size w W → Calls Tryz.prog 37 #[kT, wT] W fun e w' => ∃ v, e = .returned v ∧ v = .bool true ∧ Below w.heap.size w w') := fun W hW =>
    (likeT_calls _ _ lT W ((list_of_row (sz := 3) (enc := taskEnc) (fun _ => rfl) hkT rfl).below hW (Nat.le_refl _)) ((list_of_row (sz := 3) (enc := taskEnc) (fun _ => rfl) hwT rfl).below hW (Nat.le_refl _)) (by omega)).mono fun e w' h => ⟨_, h.1, rfl, hW.trans (h.2.mono hW.size)⟩
  have HS3 : Hid (∀ W, Below w.heap.size w W → Calls Tryz.prog 41 #[kM, wM] W fun e w' => ∃ v, e = .returned v ∧ v = .bool true ∧ Below w.heap.size w w') := fun W hW =>
    (likeM_calls _ _ lM W ((list_of_row (sz := 15) (enc := msgEnc) (fun _ => rfl) hkM rfl).below hW (Nat.le_refl _)) ((list_of_row (sz := 15) (enc := msgEnc) (fun _ => rfl) hwM rfl).below hW (Nat.le_refl _)) (by omega)).mono fun e w' h => ⟨_, h.1, rfl, hW.trans (h.2.mono hW.size)⟩
  have hbn : bs.length ≤ 1200000000000 := by omega
  clear hkV hwV hkT hwT hkM hwM hbx hr hmk hlab hbs
  go_enter Tryz.func21, Tryz.ntmps21
  go_upto_region 1 with fail
  go_cut [3] (fun s wx => s = .bool true ∧ Below w.heap.size w wx)
  case first =>
    go_region_law (refine step_call2 (by rfl) 44 _ _ _ (by rfl) kV wV (by rfl) (by rfl) (enters_of Tryz.func44 (by kernel_rfl) rfl) (HS1.out _ (by first | exact Below.refl _ _ | exact (Below.refl _ _).drew)) ?_; rintro v9 w9 ⟨rfl, hb9⟩)
    all_goals
      go_wp2_with fail
      go_meet
      case rel => exact ⟨rfl, by assumption⟩
  case rest =>
    obtain ⟨rfl, hw1⟩ := hcut
    rename World => w1
    have hbx1 := HBX.out w1 hw1
    clear b3 b4
    have b5 := hbx1.cell (o := 5) rfl
    have b6 := hbx1.cell (o := 6) rfl
    clear hbx1
    go_upto_region 2 with fail
    go_cut [4] (fun s wx => s = .bool true ∧ Below w.heap.size w wx)
    case first =>
      go_region_law (refine step_call2 (by rfl) 37 _ _ _ (by rfl) kT wT (by rfl) (by rfl) (enters_of Tryz.func37 (by kernel_rfl) rfl) (HS2.out _ (by first | exact hw1 | exact hw1.drew)) ?_; rintro v9 w9 ⟨rfl, hb9⟩)
      all_goals
        go_wp2_with fail
        go_meet
        case rel => exact ⟨rfl, by assumption⟩
    case rest =>
      obtain ⟨rfl, hw2⟩ := hcut
      rename World => w2
      have hbx2 := HBX.out w2 hw2
      clear b5 b6
      have b7 := hbx2.cell (o := 7) rfl
      have b8 := hbx2.cell (o := 8) rfl
      clear hbx2
      go_upto_region 3 with fail
      go_cut [5] (fun s wx => s = .bool true ∧ Below w.heap.size w wx)
      case first =>
        go_region_law (refine step_call2 (by rfl) 41 _ _ _ (by rfl) kM wM (by rfl) (by rfl) (enters_of Tryz.func41 (by kernel_rfl) rfl) (HS3.out _ (by first | exact hw2 | exact hw2.drew)) ?_; rintro v9 w9 ⟨rfl, hb9⟩)
        all_goals
          go_wp2_with fail
          go_meet
          case rel => exact ⟨rfl, by assumption⟩
      case rest =>
        obtain ⟨rfl, hw3⟩ := hcut
        rename World => w3
        have hr3 := HR.out w3 hw3
        have hbx3 := HBX.out w3 hw3
        obtain ⟨aA, cA, hvA⟩ := row_form hr3
        subst hvA
        have HB3 : Hid (BoxAt w3 B 56 (booksCells N came kV wV kT wT kM wM (.slice aA bs.length cA))) := hbx3
        have HR3 : Hid (w3.ownsRow 0 106 4 (.slice aA bs.length cA) bs.length (bkCells bs)) := hr3
        have HM3 : Hid (∀ x ∈ bs, MarkedB w3 (fun b _ => lab b = 1) x) := HM.out w3 hw3
        have b2 := hbx3.cell (o := 2) rfl
        have b9 := hbx3.cell (o := 9) rfl
        clear b7 b8 hr3 hbx3
        go_wp2_with fail
        go_loopw [6] (fun i wr => ∃ k : Nat, k ≤ bs.length ∧ i = .int .i64 k ∧ Below w3.heap.size w3 wr) (fun i _ => bs.length - (intOf i).toNat)
        case atStart => exact ⟨0, Nat.zero_le _, rfl, Below.refl _ _⟩
        case round =>
          obtain ⟨k, hk, rfl, hbw⟩ := hrel
          rename World => wr
          have hbx := HB3.out.below hbw HB3.out.lt
          clear b9 b2
          have b9 := hbx.cell (o := 9) rfl
          clear hbx
          have HBW : Hid (Below w3.heap.size w3 wr) := hbw
          by_cases hlt : k < bs.length
          · obtain ⟨x, hx⟩ : ∃ x, bs[k]? = some x := ⟨_, List.getElem?_eq_getElem hlt⟩
            obtain ⟨g, cap, hgf, hg1, hg2⟩ := World.ownsRow.form HR3.out (by omega)
            obtain ⟨g0, g1, g2', g3⟩ := bkCells_get bs k x hx
            cases hgf
            have hcell : ∀ j u, (bkCells bs)[j]? = some u → wr.cell? ⟨g, j, none⟩ = some u := fun j u hj => by
              have h1 := HR3.out.cells (g := g) rfl j u hj
              rw [Addr.add_lit, Nat.zero_add] at h1
              exact (hbw.cell (p := ⟨g, j, none⟩) hg2).trans h1
            have y0 := hcell _ _ g0
            have y1 := hcell _ _ g1
            have y2 := hcell _ _ g2'
            have y3 := hcell _ _ g3
            have hmk : MarkedB wr (fun b _ => lab b = 1) x := (HM3.out x (List.mem_of_getElem? hx)).kept (Kept.of_below hbw (X := fun b => w3.heap.size ≤ b) (fun _ _ h => h)) (fun g n t cs _ hb _ h => by have := hb.lt; omega) (fun _ _ _ _ _ _ h => h)
            have HMK : Hid (MarkedB wr (fun b _ => lab b = 1) x) := hmk
            obtain ⟨x1, xV, xT, xM⟩ := x
            obtain ⟨⟨a1, n1, c1, h1, -⟩, ⟨a2, n2, c2, h2, -⟩, ⟨a3, n3, c3, h3, -⟩⟩ := hmk
            dsimp only at h1 h2 h3
            subst h1 h2 h3
            dsimp only at y0 y1 y2 y3
            have i1 : (0 : Int) ≤ (k : Int) := by omega
            have i2 : (k : Int) < (bs.length : Int) := by omega
            clear hcell g0 g1 g2' g3 hbw
            go_wp2_with (go_at_call 60; refine (fullB_calls _ _ wr HMK.out).mono ?_; rintro e w9 ⟨rfl, hb9⟩)
            go_roundw
            case rel => exact ⟨k + 1, by omega, by go_num, HBW.out.trans (hb9.mono HBW.out.size)⟩
            case measure => simp [intOf]; omega
          · go_wp2_with fail
            go_ret
            exact ⟨rfl, hw3.trans (HBW.out.mono hw3.size)⟩
end Go.Proofs.YtgbneeohaboncaaGreatDoor
