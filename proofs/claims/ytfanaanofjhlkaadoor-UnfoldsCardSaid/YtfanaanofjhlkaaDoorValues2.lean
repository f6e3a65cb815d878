/-
  gleanlaw's Books.values, at the second list that comes: the one that was kept is as it came, and is marked; then this one is marked.
-/
import Derived.Test.YtfanaanofjhlkaaDoorValues1
namespace Go.Proofs.YtfanaanofjhlkaaDoor
open Go Go.RowKit

set_option maxHeartbeats 4000000 in
set_option maxRecDepth 100000 in
theorem values2_calls (F : Nat → Prop) (B : Nat) (kV wV lv : Value) (l0 l : List (ByteArray × Int)) (bs : List (Int × Value)) (w : World) (hI : BooksAt F (fun g _ => F g) w B 1 1 kV wV bs)
    (hk : w.ownsRow 0 32 2 kV l0.length (pairCells l0)) (hkF : ∀ g, kV.ownBlock = some g → ¬ F g) (hw : PairsAt w wV l0)
    (hl : w.ownsRow 0 32 2 lv l.length (pairCells l)) (hlF : ∀ g, lv.ownBlock = some g → ¬ F g ∧ kV.ownBlock ≠ some g) (hn0 : l0.length ≤ 1000000) (hn : l.length ≤ 1000000) (hbs : bs.length = 4) :
    Calls Tryd.prog 10 #[.pointer (some ⟨B, 0, none⟩), lv] w fun e w' => e = .returned (.tuple #[]) ∧ ∃ bs', bs'.length = 12 ∧ BooksAt (fun b => F b ∨ w.heap.size ≤ b ∨ kV.ownBlock = some b ∨ lv.ownBlock = some b) (fun b _ => F b ∨ w.heap.size ≤ b ∨ kV.ownBlock = some b ∨ lv.ownBlock = some b) w' B 3 2 (.slice none 0 0) (.slice none 0 0) bs' ∧
      Kept (fun b => F b ∨ kV.ownBlock = some b ∨ lv.ownBlock = some b) w w' := by
  obtain ⟨i1, hi1, hy0, hy1, hy2⟩ := info_parts infoValue
  have HI : Hid (BooksAt F (fun g _ => F g) w B 1 1 kV wV bs) := hI
  have HKR : Hid (w.ownsRow 0 32 2 kV l0.length (pairCells l0)) := hk
  have HKF : Hid (∀ g, kV.ownBlock = some g → ¬ F g) := hkF
  have HW : Hid (PairsAt w wV l0) := hw
  have HL : Hid (w.ownsRow 0 32 2 lv l.length (pairCells l)) := hl
  have HLF : Hid (∀ g, lv.ownBlock = some g → ¬ F g ∧ kV.ownBlock ≠ some g) := hlF
  have HBS : Hid (bs.length = 4) := hbs
  have hBl : B < w.heap.size := by obtain ⟨_, hb, _⟩ := hI; exact hb.lt
  obtain ⟨al, cl, rfl⟩ := row_form hl
  clear hI hl hlF hk hkF hw hbs
  go_enter Tryd.func10, Tryd.ntmps10
  go_upto_region 2 with (at_builtin; refine wpList_append_row rfl _ _ _ rfl 32 i1 _ 2 24 Tryd.underlying25 hi1 hy0 hy1 hy2 rfl (by omega) rfl 0 (.slice al l.length cl) l.length (pairCells l) rfl HL.out (pairCells_one _) (by unfold maxLen; omega) (by omega) ?_; intro wv w1 hrow1 hk1)
  obtain ⟨aw, cw, rfl⟩ := row_form hrow1
  have HI1 : Hid (BooksAt (fun g => F g ∧ g < w.heap.size) (fun g _ => F g ∧ g < w.heap.size) w1 B 1 1 kV wV bs) := HI.out.kept hk1 (fun _ _ h => h) (fun _ _ _ _ _ h => h) (fun _ h1 h => ⟨h, h1⟩) (fun _ _ h1 h => ⟨h, h1⟩)
  have HROW1 : Hid (w1.ownsRow w.heap.size 32 2 (.slice aw l.length cw) l.length (pairCells l)) := hrow1
  have HK1 : Hid (Kept (fun _ => False) w w1) := hk1
  have HKR1 : Hid (w1.ownsRow 0 32 2 kV l0.length (pairCells l0)) := row_kept HKR.out hk1 (fun _ _ h => h) (Nat.le_refl _)
  have HW1 : Hid (PairsAt w1 wV l0) := HW.out.below (hk1.below (Nat.le_refl _) (fun _ h => h.elim)) (Nat.le_refl _)
  have hsz1 := hk1.size
  obtain ⟨vA1, hb1, -⟩ := HI1.out
  have b3 := hb1.cell (o := 3) rfl
  have b4 := hb1.cell (o := 4) rfl
  have HS : Hid (∀ W, Below w1.heap.size w1 W → Calls Tryd.prog 7 #[kV, wV] W fun e w' => ∃ v, e = .returned v ∧ v = .bool true ∧ Below w1.heap.size w1 w') := fun W hW =>
    (sameV_calls _ _ l0 W ((pairs_of_row HKR1.out).2.below hW (Nat.le_refl _)) (HW1.out.below hW (Nat.le_refl _)) (by omega)).mono fun e w' h => ⟨_, h.1, rfl, hW.trans (h.2.mono hW.size)⟩
  clear hrow1 hk1 hb1
  go_cut [5] (fun s wx => s = .bool true ∧ Below w1.heap.size w1 wx)
  case first =>
    go_region_law (refine step_call2 (by rfl) 7 _ _ _ (by rfl) kV wV (by rfl) (by rfl) (enters_of Tryd.func7 (by kernel_rfl) rfl) (HS.out _ (by first | exact Below.refl _ _ | exact (Below.refl _ _).drew)) ?_; rintro v9 w9 ⟨rfl, hb9⟩)
    all_goals
      go_wp2_with fail
      go_meet
      case rel => exact ⟨rfl, by assumption⟩
  case rest =>
    obtain ⟨rfl, hb2⟩ := hcut
    rename World => w2
    have hsz2 := hb2.size
    have k2 : Kept (fun b => w1.heap.size ≤ b) w1 w2 := Kept.of_below hb2 (fun _ _ h => h)
    have HI2 : Hid (BooksAt (fun g => (F g ∧ g < w.heap.size) ∨ w2.heap.size ≤ g) (fun g _ => (F g ∧ g < w.heap.size) ∨ w2.heap.size ≤ g) w2 B (1 : Nat) 1 kV wV bs) := HI1.out.kept k2 (fun _ h1 h => by omega) (fun _ _ _ _ h1 h => by omega) (fun _ _ h => .inl h) (fun _ _ _ h => .inl h)
    have HROW2 : Hid (w2.ownsRow w.heap.size 32 2 (.slice aw l.length cw) l.length (pairCells l)) := row_kept HROW1.out k2 (fun g e h => by have := (HROW1.out.lt g e).2; omega) (Nat.le_refl _)
    have HKR2 : Hid (w2.ownsRow 0 32 2 kV l0.length (pairCells l0)) := row_kept HKR1.out k2 (fun g e h => by have := (HKR.out.lt g e).2; omega) (Nat.le_refl _)
    have HL2 : Hid (w2.ownsRow 0 32 2 (.slice al l.length cl) l.length (pairCells l)) := row_kept (row_kept HL.out HK1.out (fun _ _ h => h) (Nat.le_refl _)) k2 (fun g e h => by have := (HL.out.lt g e).2; omega) (Nat.le_refl _)
    have HK2 : Hid (Kept (fun b => w1.heap.size ≤ b) w1 w2) := k2
    obtain ⟨vA2, hbx2, -⟩ := HI2.out
    clear b3 b4
    have b3 := hbx2.cell (o := 3) rfl
    clear hbx2 k2
    go_upto_region 4 with (go_at_call 26; refine (markV_calls (fun g => (F g ∧ g < w.heap.size) ∨ w2.heap.size ≤ g) B 1 1 kV wV kV bs l0.length (pairCells l0) w2 (fun b h => .inr h) HI2.out HKR2.out (fun g e h => by have h1 := HKR.out.lt g e; rcases h with ⟨h, _⟩ | h; exact HKF.out g e h; omega) (by omega) (by rw [HBS.out]; omega) (by omega)).mono ?_; rintro e w3 ⟨rfl, bs3, hlen3, hI3, hk3⟩)
    have HK3 : Hid (Kept (fun g => ((F g ∧ g < w.heap.size) ∨ w2.heap.size ≤ g) ∨ kV.ownBlock = some g) w2 w3) := hk3
    have hsz3 := hk3.size
    have HLEN3 : Hid (bs3.length = 4) := hlen3
    have HROW3 : Hid (w3.ownsRow w.heap.size 32 2 (.slice aw l.length cw) l.length (pairCells l)) := row_kept HROW2.out HK3.out (fun g e h => by have h1 := HROW1.out.lt g e; rcases h with (⟨_, h⟩ | h) | h; omega; omega; have := HKR.out.lt g h; omega) (Nat.le_refl _)
    have HL3 : Hid (w3.ownsRow 0 32 2 (.slice al l.length cl) l.length (pairCells l)) := row_kept HL2.out HK3.out (fun g e h => by have h1 := HL.out.lt g e; rcases h with (⟨h, _⟩ | h) | h; exact (HLF.out g e).1 h; omega; exact (HLF.out g e).2 h) (Nat.le_refl _)
    obtain ⟨vA3, hb3, hr3, hFB3, hFA3, hm3⟩ := hI3
    have HB3 : Hid (BoxAt w3 B 39 #[.int .i64 2, .int .i64 1, .bool false, kV, wV, .slice none 0 0, .slice none 0 0, .slice none 0 0, .slice none 0 0, vA3]) := hb3
    have HR3 : Hid (w3.ownsRow 0 71 4 vA3 (bs ++ bs3).length (bookCells (bs ++ bs3))) := hr3
    have HFA3 : Hid (∀ g, vA3.ownBlock = some g → ((F g ∧ g < w.heap.size) ∨ w2.heap.size ≤ g) ∨ kV.ownBlock = some g) := hFA3
    have HM3 : Hid (∀ x ∈ bs ++ bs3, MarkAt w3 (fun g _ => ((F g ∧ g < w.heap.size) ∨ w2.heap.size ≤ g) ∨ kV.ownBlock = some g) x.2 x.1) := hm3
    have HFB3 : Hid ((fun g => ((F g ∧ g < w.heap.size) ∨ w2.heap.size ≤ g) ∨ kV.ownBlock = some g) B) := hFB3
    clear hb3 hr3 hFB3 hFA3 hm3 hk3 hlen3 b3
    go_upto_region 5 with (go_at_call 7; refine (sameV_calls _ _ l w3 (pairs_of_row HL3.out).2 (pairs_of_row HROW3.out).2 (by omega)).mono ?_; rintro e w4 ⟨rfl, hb4⟩)
    have hsz4 := hb4.size
    have k4 : Kept (fun b => w3.heap.size ≤ b) w3 w4 := Kept.of_below hb4 (fun _ _ h => h)
    have HB4 : Hid (BoxAt w4 B 39 #[.int .i64 2, .int .i64 1, .bool false, kV, wV, .slice none 0 0, .slice none 0 0, .slice none 0 0, .slice none 0 0, vA3]) := HB3.out.kept k4 (by omega)
    have bx4 := HB4.out
    have c1 := bx4.cell (o := 1) rfl
    have c2 := bx4.cell (o := 2) rfl
    have c3 := bx4.cell (o := 3) rfl
    have c4 := bx4.cell (o := 4) rfl
    have f1 := bx4.frozen 1
    have f2 := bx4.frozen 2
    have f3 := bx4.frozen 3
    have f4 := bx4.frozen 4
    have HK4 : Hid (Kept (fun b => w3.heap.size ≤ b) w3 w4) := k4
    clear bx4 k4 hb4
    go_upto_region 9 with fail
    obtain ⟨W5, hW5⟩ : ∃ W5, (((w4.setCell ⟨B, 2, none⟩ (.bool false)).setCell ⟨B, 3, none⟩ (.slice none 0 0)).setCell ⟨B, 4, none⟩ (.slice none 0 0)).setCell ⟨B, 1, none⟩ (.int .i64 2) = W5 := ⟨_, rfl⟩
    have k5 : Kept (· = B) w4 W5 := by rw [← hW5]; exact ((((Kept.refl _ _).setCell (.inl (by rfl)) _).setCell (.inl (by rfl)) _).setCell (.inl (by rfl)) _).setCell (.inl (by rfl)) _
    have bx5 : BoxAt W5 B 39 #[.int .i64 2, .int .i64 2, .bool false, .slice none 0 0, .slice none 0 0, .slice none 0 0, .slice none 0 0, .slice none 0 0, .slice none 0 0, vA3] := by rw [← hW5]; exact (((HB4.out.setAt 2 _).setAt 3 _).setAt 4 _).setAt 1 _
    rw [hW5]
    clear hW5
    have k35 : Kept (fun b => b = B ∨ w3.heap.size ≤ b) w3 W5 := (HK4.out.mono (fun _ _ h => .inr h)).trans (k5.mono (fun _ _ h => .inl h))
    have HK35 : Hid (Kept (fun b => b = B ∨ w3.heap.size ≤ b) w3 W5) := k35
    have hsz5 := k35.size
    have HI5 : Hid (BooksAt (fun g => ((F g ∧ g < w.heap.size) ∨ w2.heap.size ≤ g) ∨ kV.ownBlock = some g) (fun g _ => ((F g ∧ g < w.heap.size) ∨ w2.heap.size ≤ g) ∨ kV.ownBlock = some g) W5 B (2 : Nat) 2 (.slice none 0 0) (.slice none 0 0) (bs ++ bs3)) := by
      refine ⟨vA3, bx5, ?_, HFB3.out, HFA3.out, fun x hx => ?_⟩
      · refine row_kept HR3.out k35 (fun g e h => ?_) (Nat.le_refl _)
        rcases h with rfl | h
        · exact row_ne HR3.out HB3.out (by decide) e
        · have := (HR3.out.lt g e).2
          omega
      · refine (HM3.out x hx).kept k35 (fun g n cs hb _ h => ?_) (fun g n cs hb h => h)
        rcases h with rfl | h
        · have := hb.symm.trans HB3.out
          simp at this
        · have := hb.lt
          omega
    have HL5 : Hid (W5.ownsRow 0 32 2 (.slice al l.length cl) l.length (pairCells l)) := row_kept HL3.out k35 (fun g e h => by
      rcases h with rfl | h
      · exact row_ne HL3.out HB3.out (by decide) e
      · have := (HL3.out.lt g e).2
        omega) (Nat.le_refl _)
    have e1 := bx5.cell (o := 1) rfl
    clear bx5 k35 k5 c1 c2 c3 c4 f1 f2 f3 f4
    go_wp2_with (go_at_call 26; refine (markV_calls (fun g => ((F g ∧ g < w.heap.size) ∨ w2.heap.size ≤ g) ∨ kV.ownBlock = some g) B 2 2 (.slice none 0 0) (.slice none 0 0) (.slice al l.length cl) (bs ++ bs3) l.length (pairCells l) W5 (fun b h => .inl (.inr (by omega))) HI5.out HL5.out (fun g e h => by have h1 := HL.out.lt g e; rcases h with (⟨h, _⟩ | h) | h; exact (HLF.out g e).1 h; omega; exact (HLF.out g e).2 h) (by omega) (by rw [List.length_append, HBS.out, HLEN3.out]; omega) (by omega)).mono ?_; rintro e w6 ⟨rfl, bs6, hlen6, hI6, hk6⟩)
    go_end0
    have hcv : ∀ g, ((((F g ∧ g < w.heap.size) ∨ w2.heap.size ≤ g) ∨ kV.ownBlock = some g) ∨ (Value.slice al l.length cl).ownBlock = some g) → F g ∨ w.heap.size ≤ g ∨ kV.ownBlock = some g ∨ (Value.slice al l.length cl).ownBlock = some g := fun g h => by
      rcases h with ((h | h) | h) | h
      · exact .inl h.1
      · exact .inr (.inl (by omega))
      · exact .inr (.inr (.inl h))
      · exact .inr (.inr (.inr h))
    have hcw : ∀ g, g < w.heap.size → ((((F g ∧ g < w.heap.size) ∨ w2.heap.size ≤ g) ∨ kV.ownBlock = some g) ∨ (Value.slice al l.length cl).ownBlock = some g) → F g ∨ kV.ownBlock = some g ∨ (Value.slice al l.length cl).ownBlock = some g := fun g hg h => by
      rcases h with ((h | h) | h) | h
      · exact .inl h.1
      · omega
      · exact .inr (.inl h)
      · exact .inr (.inr h)
    refine ⟨rfl, (bs ++ bs3) ++ bs6, by rw [List.length_append, List.length_append, HBS.out, HLEN3.out, hlen6], hI6.kept (Kept.refl (fun _ => False) _) (fun _ _ h => h) (fun _ _ _ _ _ h => h) (fun g _ h => hcv g h) (fun g _ _ h => hcv g h), ?_⟩
    have k12 : Kept (fun b => F b ∨ kV.ownBlock = some b ∨ (Value.slice al l.length cl).ownBlock = some b) w w2 := (HK1.out.mono (fun _ _ h => h.elim)).andThen HK2.out (fun b h1 h2 => by omega)
    exact ((k12.andThen HK3.out (fun b h1 h2 => hcw b h1 (.inl h2))).andThen HK35.out (fun b h1 h2 => by
      rcases h2 with rfl | h2
      · exact hcw _ h1 (.inl HFB3.out)
      · omega)).andThen hk6 (fun b h1 h2 => hcw b h1 h2)
end Go.Proofs.YtfanaanofjhlkaaDoor
