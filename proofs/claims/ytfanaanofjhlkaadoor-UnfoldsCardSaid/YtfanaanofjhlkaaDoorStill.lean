/-
  gleanlaw's Books.still says yes where every list that was booked is full of its mark and no list is kept.
-/
import Derived.Test.YtfanaanofjhlkaaDoorFull
namespace Go.Proofs.YtfanaanofjhlkaaDoor
open Go Go.RowKit

theorem BooksAt.later {F : Nat → Prop} {G : Nat → Nat → Prop} {W W' : World} {B : Nat} {N came : Int} {kV wV : Value} {bs : List (Int × Value)} (h : BooksAt F G W B N came kV wV bs) (k : Below W.heap.size W W') : BooksAt F G W' B N came kV wV bs := by
  obtain ⟨vA, h1, h2, h3, h4, h5⟩ := h
  have kk : Kept (fun b => W.heap.size ≤ b) W W' := Kept.of_below k (fun _ _ h => h)
  refine ⟨vA, h1.kept kk (by have := h1.lt; omega), row_kept h2 kk (fun g e h => by have := (h2.lt g e).2; omega) (Nat.le_refl _), h3, h4, fun x hx => (h5 x hx).kept kk (fun g n cs hb _ h => by have := hb.lt; omega) (fun _ _ _ _ h => h)⟩

set_option maxHeartbeats 4000000 in
set_option maxRecDepth 100000 in
theorem still_calls (F : Nat → Prop) (G : Nat → Nat → Prop) (B : Nat) (N came : Int) (bs : List (Int × Value)) (w : World) (hI : BooksAt F G w B N came (.slice none 0 0) (.slice none 0 0) bs) (hbs : bs.length ≤ 1000) :
    Calls Tryd.prog 12 #[.pointer (some ⟨B, 0, none⟩)] w fun e w' => e = .returned (.bool true) ∧ Below w.heap.size w w' := by
  have HI : Hid (BooksAt F G w B N came (.slice none 0 0) (.slice none 0 0) bs) := hI
  have HB : Hid (∀ W, Below w.heap.size w W → ∃ vA, BoxAt W B 39 #[.int .i64 N, .int .i64 came, .bool false, .slice none 0 0, .slice none 0 0, .slice none 0 0, .slice none 0 0, .slice none 0 0, .slice none 0 0, vA]) := fun W hW => by
    obtain ⟨vA, h, _⟩ := HI.out.later hW
    exact ⟨vA, h⟩
  obtain ⟨vA, hb, -⟩ := hI
  have b3 := hb.cell (o := 3) rfl
  have b4 := hb.cell (o := 4) rfl
  clear hb
  have HS1 : Hid (∀ W, Below w.heap.size w W → Calls Tryd.prog 7 #[.slice none 0 0, .slice none 0 0] W fun e w' => ∃ v, e = .returned v ∧ v = .bool true ∧ Below w.heap.size w w') := fun W hW =>
    (sameV_calls _ _ [] W (pairs_nil W) (pairs_nil W) (by simp)).mono fun e w' h => ⟨_, h.1, rfl, hW.trans (h.2.mono hW.size)⟩
  have HS2 : Hid (∀ W, Below w.heap.size w W → Calls Tryd.prog 27 #[.slice none 0 0, .slice none 0 0] W fun e w' => ∃ v, e = .returned v ∧ v = .bool true ∧ Below w.heap.size w w') := fun W hW =>
    (sameT_nil W).mono fun e w' h => ⟨_, h.1, rfl, by rw [h.2]; exact hW⟩
  have HS3 : Hid (∀ W, Below w.heap.size w W → Calls Tryd.prog 28 #[.slice none 0 0, .slice none 0 0] W fun e w' => ∃ v, e = .returned v ∧ v = .bool true ∧ Below w.heap.size w w') := fun W hW =>
    (sameM_nil W).mono fun e w' h => ⟨_, h.1, rfl, by rw [h.2]; exact hW⟩
  go_enter Tryd.func12, Tryd.ntmps12
  go_upto_region 1 with fail
  go_cut [3] (fun s wx => s = .bool true ∧ Below w.heap.size w wx)
  case first =>
    go_region_law (refine step_call2 (by rfl) 7 _ _ _ (by rfl) (.slice none 0 0) (.slice none 0 0) (by rfl) (by rfl) (enters_of Tryd.func7 (by kernel_rfl) rfl) (HS1.out _ (by first | exact Below.refl _ _ | exact (Below.refl _ _).drew)) ?_; rintro v9 w9 ⟨rfl, hb9⟩)
    all_goals
      go_wp2_with fail
      go_meet
      case rel => exact ⟨rfl, by assumption⟩
  case rest =>
    obtain ⟨rfl, hw1⟩ := hcut
    rename World => w1
    obtain ⟨vA1, hbx1⟩ := HB.out w1 hw1
    clear b3 b4
    have b5 := hbx1.cell (o := 5) rfl
    have b6 := hbx1.cell (o := 6) rfl
    clear hbx1
    go_upto_region 2 with fail
    go_cut [4] (fun s wx => s = .bool true ∧ Below w.heap.size w wx)
    case first =>
      go_region_law (refine step_call2 (by rfl) 27 _ _ _ (by rfl) (.slice none 0 0) (.slice none 0 0) (by rfl) (by rfl) (enters_of Tryd.func27 (by kernel_rfl) rfl) (HS2.out _ (by first | exact hw1 | exact hw1.drew)) ?_; rintro v9 w9 ⟨rfl, hb9⟩)
      all_goals
        go_wp2_with fail
        go_meet
        case rel => exact ⟨rfl, by assumption⟩
    case rest =>
      obtain ⟨rfl, hw2⟩ := hcut
      rename World => w2
      obtain ⟨vA2, hbx2⟩ := HB.out w2 hw2
      clear b5 b6
      have b7 := hbx2.cell (o := 7) rfl
      have b8 := hbx2.cell (o := 8) rfl
      clear hbx2
      go_upto_region 3 with fail
      go_cut [5] (fun s wx => s = .bool true ∧ Below w.heap.size w wx)
      case first =>
        go_region_law (refine step_call2 (by rfl) 28 _ _ _ (by rfl) (.slice none 0 0) (.slice none 0 0) (by rfl) (by rfl) (enters_of Tryd.func28 (by kernel_rfl) rfl) (HS3.out _ (by first | exact hw2 | exact hw2.drew)) ?_; rintro v9 w9 ⟨rfl, hb9⟩)
        all_goals
          go_wp2_with fail
          go_meet
          case rel => exact ⟨rfl, by assumption⟩
      case rest =>
        obtain ⟨rfl, hw3⟩ := hcut
        rename World => w3
        have HI3 : Hid (BooksAt F G w3 B N came (.slice none 0 0) (.slice none 0 0) bs) := HI.out.later hw3
        obtain ⟨vA3, hbx3, hr3, -, -, hm3⟩ := HI3.out
        obtain ⟨aA, cA, rfl⟩ := row_form hr3
        have HB3 : Hid (BoxAt w3 B 39 #[.int .i64 N, .int .i64 came, .bool false, .slice none 0 0, .slice none 0 0, .slice none 0 0, .slice none 0 0, .slice none 0 0, .slice none 0 0, .slice aA bs.length cA]) := hbx3
        have HR3 : Hid (w3.ownsRow 0 71 4 (.slice aA bs.length cA) bs.length (bookCells bs)) := hr3
        have HM3 : Hid (∀ x ∈ bs, MarkAt w3 G x.2 x.1) := hm3
        have b2 := hbx3.cell (o := 2) rfl
        have b9 := hbx3.cell (o := 9) rfl
        clear b7 b8 hr3 hm3 hbx3
        go_wp2_with fail
        go_loopw [6] (fun i wr => ∃ k : Nat, k ≤ bs.length ∧ i = .int .i64 k ∧ Below w3.heap.size w3 wr) (fun i _ => bs.length - (intOf i).toNat)
        case atStart => exact ⟨0, Nat.zero_le _, rfl, Below.refl _ _⟩
        case round =>
          obtain ⟨k, hk, rfl, hbw⟩ := hrel
          rename World => wr
          have hbx := HB3.out.below hbw HB3.out.lt
          clear b9 b2
          have b9 := hbx.cell (o := 9) rfl
          clear hbx
          have HBW : Hid (Below w3.heap.size w3 wr) := hbw
          by_cases hlt : k < bs.length
          · obtain ⟨x, hx⟩ : ∃ x, bs[k]? = some x := ⟨_, List.getElem?_eq_getElem hlt⟩
            obtain ⟨g, cap, hgf, hg1, hg2⟩ := World.ownsRow.form HR3.out (by omega)
            obtain ⟨g0, g1, g2', g3⟩ := bookCells_get bs k x hx
            cases hgf
            have hcell : ∀ j u, (bookCells bs)[j]? = some u → wr.cell? ⟨g, j, none⟩ = some u := fun j u hj => by
              have h1 := HR3.out.cells (g := g) rfl j u hj
              rw [Addr.add_lit, Nat.zero_add] at h1
              exact (hbw.cell (p := ⟨g, j, none⟩) hg2).trans h1
            have y0 := hcell _ _ g0
            have y1 := hcell _ _ g1
            have y2 := hcell _ _ g2'
            have y3 := hcell _ _ g3
            have hmk : MarkAt wr G x.2 x.1 := (HM3.out x (List.mem_of_getElem? hx)).kept (Kept.of_below hbw (X := fun b => w3.heap.size ≤ b) (fun _ _ h => h)) (fun g n cs hb _ h => by have := hb.lt; omega) (fun _ _ _ _ h => h)
            have HMK : Hid (MarkAt wr G x.2 x.1) := hmk
            obtain ⟨xa, xn, xc, hxv, -⟩ := hmk
            obtain ⟨x1, x2⟩ := x
            dsimp only at hxv
            subst hxv
            dsimp only at y0 y1
            have i1 : (0 : Int) ≤ (k : Int) := by omega
            have i2 : (k : Int) < (bs.length : Int) := by omega
            clear hcell g0 g1 g2' g3 hbw
            go_wp2_with (go_at_call 29; refine (full_calls G _ x1 wr HMK.out).mono ?_; rintro e w9 ⟨rfl, hb9⟩)
            go_roundw
            case rel => exact ⟨k + 1, by omega, by go_num, HBW.out.trans (hb9.mono HBW.out.size)⟩
            case measure => simp [intOf]; omega
          · go_wp2_with fail
            go_ret
            exact ⟨rfl, hw3.trans (HBW.out.mono hw3.size)⟩
end Go.Proofs.YtfanaanofjhlkaaDoor
