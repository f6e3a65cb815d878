/-
  gleanlaw's Books.messages takes a list that came out: the one that was kept is as it came, and is marked; then this one is kept, or marked.
-/
import Derived.Test.YtdbbejedipfckaaGreatDoorBookState
import Derived.Test.YtdbbejedipfckaaGreatDoorMarkerM
import Derived.Test.YtdbbejedipfckaaGreatDoorLikeM
import Derived.Test.YtdbbejedipfckaaGreatDoorProg
import Derived.Test.YtdbbejedipfckaaGreatDoorLeaves
import Derived.Deep.Slices
import Derived.Deep.SlicePairs
import Derived.Deep.Strs
import Derived.Lib.SmallJoins
import Derived.SizedLaws
import Derived.Test.YtdbbejedipfckaaGreatDoorXSteal
namespace Go.Proofs.YtdbbejedipfckaaGreatDoor
open Go Go.RowKit

set_option maxHeartbeats 8000000 in
set_option maxRecDepth 100000 in
theorem takeM_calls (F : Nat → Prop) (B N came : Nat) (lv : Value) (l : List MsgS) (w : World) (hI : BooksOK F w B N came)
    (hl : w.ownsRow 0 139 15 lv l.length (l.flatMap msgEnc)) (hlF : ∀ g, lv.ownBlock = some g → ¬ F g) (hn : l.length ≤ 1000000) (hN : N ≤ 300000000000) (hcm : came ≤ 300000000000) :
    Calls Tryz.prog 43 #[.pointer (some ⟨B, 0, none⟩), lv] w fun e w' => e = .returned (.tuple #[]) ∧ ∃ N', N' ≤ N + 2 ∧ BooksOK (fun b => F b ∨ w.heap.size ≤ b ∨ lv.ownBlock = some b) w' B N' (came + 1) ∧ Kept (fun b => F b ∨ lv.ownBlock = some b) w w' := by
  obtain ⟨i1, hi1, hy0, hy1, hy2⟩ := info_parts infoMessage
  obtain ⟨lab, kV, wV, kT, wT, kM, wM, lV, lT, lM, bs, hlab, hbs, hX, hKV, hKT, hKM⟩ := hI
  have HLAB : Hid (∀ b, lab b ≠ 0 → F b) := hlab
  have HI : Hid (BooksX (fun b => lab b = 1) (fun b _ => lab b = 1) w B N came kV wV kT wT kM wM bs) := hX
  have HOV : Hid (KeptL 84 2 valEnc lab 2 3 w kV wV lV) := hKV
  have HOT : Hid (KeptL 76 3 taskEnc lab 4 5 w kT wT lT) := hKT
  have HK : Hid (KeptL 139 15 msgEnc lab 6 7 w kM wM lM) := hKM
  obtain ⟨hkr, hkl, hwr, hwl, hn0⟩ := hKM
  have HKR : Hid (w.ownsRow 0 139 15 kM lM.length (lM.flatMap msgEnc)) := hkr
  have HKL : Hid (∀ g, kM.ownBlock = some g → lab g = 6) := hkl
  have HW : Hid (ListAt 15 msgEnc w wM lM) := list_of_row (sz := 15) (enc := msgEnc) (fun _ => rfl) hwr rfl
  have HL : Hid (w.ownsRow 0 139 15 lv l.length (l.flatMap msgEnc)) := hl
  have HLF : Hid (∀ g, lv.ownBlock = some g → lab g = 0) := fun g e => by
    rcases Nat.eq_zero_or_pos (lab g) with h | h
    · exact h
    · exact absurd (hlab g (by omega)) (hlF g e)
  have HLF0 : Hid (∀ g, lv.ownBlock = some g → ¬ F g) := hlF
  have HBS : Hid (bs.length = 4 * N) := hbs
  have hBl : B < w.heap.size := by obtain ⟨_, hb, _⟩ := hX; exact hb.lt
  have hFB0 : lab B = 1 := by obtain ⟨_, _, _, hb, _⟩ := hX; exact hb
  obtain ⟨al, cl, rfl⟩ := row_form hl
  clear hlab hX hl hlF hkr hkl hwr hwl hbs
  clear hKV
  clear hKT
  go_enter Tryz.func43, Tryz.ntmps43
  go_upto_region 2 with (at_builtin; refine wpList_append_row rfl _ _ _ rfl 139 i1 _ 15 128 Tryz.underlying53 hi1 hy0 hy1 hy2 rfl (by omega) rfl 0 (.slice al l.length cl) l.length (l.flatMap msgEnc) rfl HL.out (flat_one msgEnc_one _) (by unfold maxLen; omega) (by omega) ?_; intro wv w1 hrow1 hk1)
  obtain ⟨aw, cw, rfl⟩ := row_form hrow1
  have HI1 : Hid (BooksX (fun g => lab g = 1 ∧ g < w.heap.size) (fun g _ => lab g = 1 ∧ g < w.heap.size) w1 B N came kV wV kT wT kM wM bs) := HI.out.kept hk1 (fun _ _ _ h => h) (fun _ _ _ _ h => h) (fun _ h1 h => ⟨h, h1⟩) (fun _ _ h1 h => ⟨h, h1⟩)
  have HROW1 : Hid (w1.ownsRow w.heap.size 139 15 (.slice aw l.length cw) l.length (l.flatMap msgEnc)) := hrow1
  have HK1 : Hid (Kept (fun _ => False) w w1) := hk1
  have HKR1 : Hid (w1.ownsRow 0 139 15 kM lM.length (lM.flatMap msgEnc)) := row_kept HKR.out hk1 (fun _ _ h => h) (Nat.le_refl _)
  have HW1 : Hid (ListAt 15 msgEnc w1 wM lM) := HW.out.below (hk1.below (Nat.le_refl _) (fun _ h => h.elim)) (Nat.le_refl _)
  have hsz1 := hk1.size
  obtain ⟨vA1, hb1, -⟩ := HI1.out
  have b3 := hb1.cell (o := 7) rfl
  have b4 := hb1.cell (o := 8) rfl
  have HS : Hid (∀ W, Below w1.heap.size w1 W → Calls Tryz.prog 42 #[kM, wM] W fun e w' => ∃ v, e = .returned v ∧ v = .bool true ∧ Below w1.heap.size w1 w') := fun W hW =>
    (likeM_calls _ _ lM W ((list_of_row (sz := 15) (enc := msgEnc) (fun _ => rfl) HKR1.out rfl).below hW (Nat.le_refl _)) (HW1.out.below hW (Nat.le_refl _)) (by omega)).mono fun e w' h => ⟨_, h.1, rfl, hW.trans (h.2.mono hW.size)⟩
  clear hrow1 hk1 hb1
  go_cut [5] (fun s wx => s = .bool true ∧ Below w1.heap.size w1 wx)
  case first =>
    go_region_law (refine step_call2 (by rfl) 42 _ _ _ (by rfl) kM wM (by rfl) (by rfl) (enters_of Tryz.func42 (by kernel_rfl) rfl) (HS.out _ (by first | exact Below.refl _ _ | exact (Below.refl _ _).drew)) ?_; rintro v9 w9 ⟨rfl, hb9⟩)
    all_goals
      go_wp2_with fail
      go_meet
      case rel => exact ⟨rfl, by assumption⟩
  case rest =>
    obtain ⟨rfl, hb2⟩ := hcut
    rename World => w2
    have hsz2 := hb2.size
    have k2 : Kept (fun b => w1.heap.size ≤ b) w1 w2 := Kept.of_below hb2 (fun _ _ h => h)
    have HI2 : Hid (BooksX (fun g => (lab g = 1 ∧ g < w.heap.size) ∨ w2.heap.size ≤ g) (fun g _ => (lab g = 1 ∧ g < w.heap.size) ∨ w2.heap.size ≤ g) w2 B (N : Nat) came kV wV kT wT kM wM bs) := HI1.out.kept k2 (fun _ _ h1 h => by omega) (fun _ _ _ h1 h => by omega) (fun _ _ h => .inl h) (fun _ _ _ h => .inl h)
    have HROW2 : Hid (w2.ownsRow w.heap.size 139 15 (.slice aw l.length cw) l.length (l.flatMap msgEnc)) := row_kept HROW1.out k2 (fun g e h => by have := (HROW1.out.lt g e).2; omega) (Nat.le_refl _)
    have HKR2 : Hid (w2.ownsRow 0 139 15 kM lM.length (lM.flatMap msgEnc)) := row_kept HKR1.out k2 (fun g e h => by have := (HKR.out.lt g e).2; omega) (Nat.le_refl _)
    have HL2 : Hid (w2.ownsRow 0 139 15 (.slice al l.length cl) l.length (l.flatMap msgEnc)) := row_kept (row_kept HL.out HK1.out (fun _ _ h => h) (Nat.le_refl _)) k2 (fun g e h => by have := (HL.out.lt g e).2; omega) (Nat.le_refl _)
    have HK2 : Hid (Kept (fun b => w1.heap.size ≤ b) w1 w2) := k2
    obtain ⟨vA2, hbx2, -⟩ := HI2.out
    clear b3 b4
    have b3 := hbx2.cell (o := 7) rfl
    clear hbx2 k2
    go_upto_region 4 with (go_at_call 81; refine (markerM_calls (fun g => (lab g = 1 ∧ g < w.heap.size) ∨ w2.heap.size ≤ g) B N came kV wV kT wT kM wM kM bs lM.length (lM.flatMap msgEnc) w2 (fun b h => .inr h) HI2.out HKR2.out (fun g e h => by have h1 := HKR.out.lt g e; have h2 := HKL.out g e; omega) (by omega) (by rw [HBS.out]; omega) (by omega)).mono ?_; rintro e w3 ⟨rfl, bs3, hlen3, hI3, hk3⟩)
    have HK3 : Hid (Kept (fun g => ((lab g = 1 ∧ g < w.heap.size) ∨ w2.heap.size ≤ g) ∨ kM.ownBlock = some g) w2 w3) := hk3
    have hsz3 := hk3.size
    have HLEN3 : Hid (bs3.length = 4) := hlen3
    have HROW3 : Hid (w3.ownsRow w.heap.size 139 15 (.slice aw l.length cw) l.length (l.flatMap msgEnc)) := row_kept HROW2.out HK3.out (fun g e h => by have h1 := HROW1.out.lt g e; rcases h with (⟨_, h⟩ | h) | h; omega; omega; have := HKR.out.lt g h; omega) (Nat.le_refl _)
    have HL3 : Hid (w3.ownsRow 0 139 15 (.slice al l.length cl) l.length (l.flatMap msgEnc)) := row_kept HL2.out HK3.out (fun g e h => by have h1 := HL.out.lt g e; have h2 := HLF.out g e; rcases h with (⟨h, _⟩ | h) | h; omega; omega; have h3 := HKL.out g h; omega) (Nat.le_refl _)
    obtain ⟨vA3, hb3, hr3, hFB3, hFA3, hm3⟩ := hI3
    have HB3 : Hid (BoxAt w3 B 56 (booksCells (N + 1 : Nat) came kV wV kT wT kM wM vA3)) := hb3
    have HR3 : Hid (w3.ownsRow 0 106 4 vA3 (bs ++ bs3).length (bkCells (bs ++ bs3))) := hr3
    have HFA3 : Hid (∀ g, vA3.ownBlock = some g → ((lab g = 1 ∧ g < w.heap.size) ∨ w2.heap.size ≤ g) ∨ kM.ownBlock = some g) := hFA3
    have HM3 : Hid (∀ x ∈ bs ++ bs3, MarkedB w3 (fun g _ => ((lab g = 1 ∧ g < w.heap.size) ∨ w2.heap.size ≤ g) ∨ kM.ownBlock = some g) x) := hm3
    have HFB3 : Hid ((fun g => ((lab g = 1 ∧ g < w.heap.size) ∨ w2.heap.size ≤ g) ∨ kM.ownBlock = some g) B) := hFB3
    clear hb3 hr3 hFB3 hFA3 hm3 hk3 hlen3 b3
    go_upto_region 5 with (go_at_call 42; refine (likeM_calls _ _ l w3 (list_of_row (sz := 15) (enc := msgEnc) (fun _ => rfl) HL3.out rfl) (list_of_row (sz := 15) (enc := msgEnc) (fun _ => rfl) HROW3.out rfl) (by omega)).mono ?_; rintro e w4 ⟨rfl, hb4⟩)
    have hsz4 := hb4.size
    have k4 : Kept (fun b => w3.heap.size ≤ b) w3 w4 := Kept.of_below hb4 (fun _ _ h => h)
    have HB4 : Hid (BoxAt w4 B 56 (booksCells (N + 1 : Nat) came kV wV kT wT kM wM vA3)) := HB3.out.kept k4 (by omega)
    have bx4 := HB4.out
    have c1 := bx4.cell (o := 1) rfl
    have c2 := bx4.cell (o := 2) rfl
    have c3 := bx4.cell (o := 7) rfl
    have c4 := bx4.cell (o := 8) rfl
    have f1 := bx4.frozen 1
    have f2 := bx4.frozen 2
    have f3 := bx4.frozen 7
    have f4 := bx4.frozen 8
    have HK4 : Hid (Kept (fun b => w3.heap.size ≤ b) w3 w4) := k4
    clear bx4 k4 hb4
    have cw1 : IntKind.i64.wrap ((came : Int) + 1) = (came : Int) + 1 := IntWalk.i64_in _ (by omega)
    have HNF : Hid (∀ g, g < w.heap.size → ((((lab g = 1 ∧ g < w.heap.size) ∨ w2.heap.size ≤ g) ∨ kM.ownBlock = some g) → lab g = 1 ∨ lab g = 6)) := fun g hg h => by
      rcases h with (h | h) | h
      · exact .inl h.1
      · omega
      · exact .inr (HKL.out g h)
    have hc1 : ((N + 1 : Nat) : Int) = (N : Int) + 1 := by omega
    go_upto_region 9 with fail
    obtain ⟨W5, hW5⟩ : ∃ W5, (((w4.setCell ⟨B, 2, none⟩ (.bool false)).setCell ⟨B, 7, none⟩ (.slice none 0 0)).setCell ⟨B, 8, none⟩ (.slice none 0 0)).setCell ⟨B, 1, none⟩ (.int .i64 ((came : Int) + 1)) = W5 := ⟨_, rfl⟩
    have k5 : Kept (· = B) w4 W5 := by rw [← hW5]; exact ((((Kept.refl _ _).setCell (.inl (by rfl)) _).setCell (.inl (by rfl)) _).setCell (.inl (by rfl)) _).setCell (.inl (by rfl)) _
    have bx5 : BoxAt W5 B 56 (booksCells (N + 1 : Nat) ((came : Int) + 1) kV wV kT wT (.slice none 0 0) (.slice none 0 0) vA3) := by rw [← hW5]; exact (((HB4.out.setAt 2 _).setAt 7 _).setAt 8 _).setAt 1 _
    rw [hW5]
    clear hW5
    have k35 : Kept (fun b => b = B ∨ w3.heap.size ≤ b) w3 W5 := (HK4.out.mono (fun _ _ h => .inr h)).trans (k5.mono (fun _ _ h => .inl h))
    have HK35 : Hid (Kept (fun b => b = B ∨ w3.heap.size ≤ b) w3 W5) := k35
    have hsz5 := k35.size
    have HR5 : Hid (W5.ownsRow 0 106 4 vA3 (bs ++ bs3).length (bkCells (bs ++ bs3))) := by
      refine row_kept HR3.out k35 (fun g e h => ?_) (Nat.le_refl _)
      rcases h with rfl | h
      · exact row_ne HR3.out HB3.out (by decide) e
      · have := (HR3.out.lt g e).2
        omega
    have HM5 : Hid (∀ x ∈ bs ++ bs3, MarkedB W5 (fun g _ => ((lab g = 1 ∧ g < w.heap.size) ∨ w2.heap.size ≤ g) ∨ kM.ownBlock = some g) x) := fun x hx => by
      refine (HM3.out x hx).kept k35 (fun g n t cs ht hb _ h => ?_) (fun g n t cs ht hb h => h)
      rcases h with rfl | h
      · exact ht.ne.1 (boxAt_type hb HB3.out)
      · have := hb.lt
        omega
    have HI5 : Hid (BooksX (fun g => ((lab g = 1 ∧ g < w.heap.size) ∨ w2.heap.size ≤ g) ∨ kM.ownBlock = some g) (fun g _ => ((lab g = 1 ∧ g < w.heap.size) ∨ w2.heap.size ≤ g) ∨ kM.ownBlock = some g) W5 B (N + 1 : Nat) ((came : Int) + 1) kV wV kT wT (.slice none 0 0) (.slice none 0 0) (bs ++ bs3)) := ⟨vA3, bx5, HR5.out, HFB3.out, HFA3.out, HM5.out⟩
    have HL5 : Hid (W5.ownsRow 0 139 15 (.slice al l.length cl) l.length (l.flatMap msgEnc)) := row_kept HL3.out k35 (fun g e h => by
      rcases h with rfl | h
      · exact row_ne HL3.out HB3.out (by decide) e
      · have := (HL3.out.lt g e).2
        omega) (Nat.le_refl _)
    have HROW5 : Hid (W5.ownsRow w.heap.size 139 15 (.slice aw l.length cw) l.length (l.flatMap msgEnc)) := row_kept HROW3.out k35 (fun g e h => by
      rcases h with rfl | h
      · exact row_ne HROW3.out HB3.out (by decide) e
      · have := (HROW3.out.lt g e).2
        omega) (Nat.le_refl _)
    have k12 : Kept (fun b => lab b = 1 ∨ lab b = 6) w w2 := (HK1.out.mono (fun _ _ h => h.elim)).andThen HK2.out (fun b h1 h2 => by omega)
    have k15 : Kept (fun b => lab b = 1 ∨ lab b = 6) w W5 := (k12.andThen HK3.out (fun b h1 h2 => HNF.out b h1 h2)).andThen k35 (fun b h1 h2 => by
      rcases h2 with rfl | h2
      · exact .inl hFB0
      · omega)
    have HK15 : Hid (Kept (fun b => lab b = 1 ∨ lab b = 6) w W5) := k15
    have HLT1 : Hid (∀ g, (Value.slice aw l.length cw).ownBlock = some g → w.heap.size ≤ g ∧ g < w1.heap.size) := HROW1.out.lt
    have e1 := bx5.cell (o := 1) rfl
    clear k15 k12 k35 k5 c1 c2 c3 c4 f1 f2 f3 f4
    have hz : ∀ g, lab g ≠ 0 → (Value.slice al l.length cl).ownBlock ≠ some g := fun g h e => h (HLF.out g e)
    by_cases hpar : (came + 1) % 2 = 0
    · have hp1 : ((came : Int) + 1) % 2 = 0 := by omega
      have hp2 : ((came : Int) + 1).tmod 2 = 0 := by rw [Int.tmod_eq_emod_of_nonneg (by omega)]; exact hp1
      clear bx5
      go_wp2_with (go_at_call 81; refine (markerM_calls (fun g => ((lab g = 1 ∧ g < w.heap.size) ∨ w2.heap.size ≤ g) ∨ kM.ownBlock = some g) B (N + 1) ((came : Int) + 1) kV wV kT wT (.slice none 0 0) (.slice none 0 0) (.slice al l.length cl) (bs ++ bs3) l.length (l.flatMap msgEnc) W5 (fun b h => .inl (.inr (by omega))) HI5.out HL5.out (fun g e h => by have h1 := HL.out.lt g e; have h2 := HLF.out g e; have h3 := HNF.out g h1.2 h; omega) (by omega) (by rw [List.length_append, HBS.out, HLEN3.out]; omega) (by omega)).mono ?_; rintro e w6 ⟨rfl, bs6, hlen6, hI6, hk6⟩)
      go_end0
      have hk : Kept (fun b => (lab b = 1 ∨ lab b = 6) ∨ (Value.slice al l.length cl).ownBlock = some b) w w6 := (HK15.out.mono (fun _ _ h => .inl h)).andThen hk6 (fun b h1 h2 => by
        rcases h2 with h2 | h2
        · exact .inl (HNF.out b h1 h2)
        · exact .inr h2)
      have hlab' : ∀ g, (((lab g = 1 ∧ g < w.heap.size) ∨ w2.heap.size ≤ g) ∨ kM.ownBlock = some g) ∨ (Value.slice al l.length cl).ownBlock = some g → (fun b => if b < w.heap.size then (if lab b = 6 ∨ (Value.slice al l.length cl).ownBlock = some b then 1 else lab b) else 1) g = 1 := fun g h => by
        dsimp only
        by_cases hg : g < w.heap.size
        · rw [if_pos hg]
          rcases h with h | h
          · rcases HNF.out g hg h with h | h
            · split <;> simp [h]
            · rw [if_pos (.inl h)]
          · rw [if_pos (.inr h)]
        · rw [if_neg hg]
      refine ⟨rfl, N + 2, by omega, ⟨fun b => if b < w.heap.size then (if lab b = 6 ∨ (Value.slice al l.length cl).ownBlock = some b then 1 else lab b) else 1, kV, wV, kT, wT, .slice none 0 0, .slice none 0 0, lV, lT, [], (bs ++ bs3) ++ bs6, fun b hb => ?_, by rw [List.length_append, List.length_append, HBS.out, HLEN3.out, hlen6]; omega, hI6.kept (Kept.refl (fun _ => False) _) (fun _ _ _ h => h) (fun _ _ _ _ h => h) (fun g _ h => hlab' g h) (fun g _ _ h => hlab' g h), ?_, ?_, ?_⟩, ?_⟩
      · dsimp only at hb
        by_cases hg : b < w.heap.size
        · rw [if_pos hg] at hb
          by_cases h : lab b = 6 ∨ (Value.slice al l.length cl).ownBlock = some b
          · rcases h with h | h
            · exact .inl (HLAB.out b (by omega))
            · exact .inr (.inr h)
          · rw [if_neg h] at hb
            exact .inl (HLAB.out b hb)
        · exact .inr (.inl (by omega))
      all_goals first
        | exact KeptL.nil _ _ _ _ _ _ _
        | exact hk.mono (fun b _ h => h.elim (fun h => .inl (HLAB.out b (by omega))) .inr)
        | exact HOV.out.kept hk (fun g hg h => ⟨fun h' => h'.elim (fun h' => by omega) (hz g (by omega)), (if_pos hg).trans (if_neg (fun h' => h'.elim (fun h' => by omega) (hz g (by omega))))⟩)
        | exact HOT.out.kept hk (fun g hg h => ⟨fun h' => h'.elim (fun h' => by omega) (hz g (by omega)), (if_pos hg).trans (if_neg (fun h' => h'.elim (fun h' => by omega) (hz g (by omega))))⟩)
    · have hp1 : ((came : Int) + 1) % 2 = 1 := by omega
      have hp2 : ((came : Int) + 1).tmod 2 = 1 := by rw [Int.tmod_eq_emod_of_nonneg (by omega)]; exact hp1
      have f3 := bx5.frozen 7
      have f4 := bx5.frozen 8
      have c3 := bx5.cell (o := 7) rfl
      have c4 := bx5.cell (o := 8) rfl
      have HBX5 : Hid (BoxAt W5 B 56 (booksCells (N + 1 : Nat) ((came : Int) + 1) kV wV kT wT (.slice none 0 0) (.slice none 0 0) vA3)) := bx5
      clear bx5
      go_wp2_with fail
      go_end0
      obtain ⟨W6, hW6⟩ : ∃ W6, (W5.setCell ⟨B, 7, none⟩ (.slice al l.length cl)).setCell ⟨B, 8, none⟩ (.slice aw l.length cw) = W6 := ⟨_, rfl⟩
      have k6 : Kept (· = B) W5 W6 := by rw [← hW6]; exact ((Kept.refl _ _).setCell (.inl (by rfl)) _).setCell (.inl (by rfl)) _
      have bx6 : BoxAt W6 B 56 (booksCells (N + 1 : Nat) ((came : Int) + 1) kV wV kT wT (.slice al l.length cl) (.slice aw l.length cw) vA3) := by rw [← hW6]; exact (HBX5.out.setAt 7 _).setAt 8 _
      rw [hW6]
      have hk : Kept (fun b => lab b = 1 ∨ lab b = 6) w W6 := HK15.out.andThen k6 (fun b _ h => by subst h; exact .inl hFB0)
      have hlab' : ∀ g, ((lab g = 1 ∧ g < w.heap.size) ∨ w2.heap.size ≤ g) ∨ kM.ownBlock = some g → (fun b => if b < w.heap.size then (if lab b = 6 then 1 else if (Value.slice al l.length cl).ownBlock = some b then 6 else lab b) else if b < w1.heap.size then 7 else 1) g = 1 := fun g h => by
        dsimp only
        by_cases hg : g < w.heap.size
        · rw [if_pos hg]
          rcases HNF.out g hg h with h' | h'
          · rw [if_neg (by omega), if_neg (fun e => by have := HLF.out g e; omega)]; exact h'
          · rw [if_pos h']
        · rw [if_neg hg, if_neg]
          rcases h with (h | h) | h
          · omega
          · omega
          · have := (HKR.out.lt g h).2
            omega
      have hnew : KeptL 139 15 msgEnc (fun b => if b < w.heap.size then (if lab b = 6 then 1 else if (Value.slice al l.length cl).ownBlock = some b then 6 else lab b) else if b < w1.heap.size then 7 else 1) 6 7 W6 (.slice al l.length cl) (.slice aw l.length cw) l := by
        refine ⟨row_kept HL5.out k6 (fun g e h => ?_) (Nat.le_refl _), fun g e => ?_, ownsRow_base (row_kept HROW5.out k6 (fun g e h => ?_) (Nat.le_refl _)) (Nat.zero_le _), fun g e => ?_, hn⟩
        · subst h
          exact row_ne HL5.out HBX5.out (by decide) e
        · have h1 := (HL.out.lt g e).2
          have h2 := HLF.out g e
          dsimp only
          rw [if_pos h1, if_neg (by omega), if_pos e]
        · subst h
          exact row_ne HROW5.out HBX5.out (by decide) e
        · have h1 := HLT1.out g e
          dsimp only
          rw [if_neg (by omega), if_pos h1.2]
      refine ⟨rfl, N + 1, by omega, ⟨fun b => if b < w.heap.size then (if lab b = 6 then 1 else if (Value.slice al l.length cl).ownBlock = some b then 6 else lab b) else if b < w1.heap.size then 7 else 1, kV, wV, kT, wT, .slice al l.length cl, .slice aw l.length cw, lV, lT, l, bs ++ bs3, fun b hb => ?_, by rw [List.length_append, HBS.out, HLEN3.out]; omega, ⟨vA3, bx6, row_kept HR5.out k6 (fun g e h => ?_) (Nat.le_refl _), hlab' B HFB3.out, fun g e => hlab' g (HFA3.out g e), fun x hx => (HM5.out x hx).kept k6 (fun g n t cs ht hb _ h => ?_) (fun g _ _ _ _ _ h => hlab' g h)⟩, ?_, ?_, ?_⟩, hk.mono (fun b _ h => .inl (HLAB.out b (by omega)))⟩
      · dsimp only at hb
        by_cases hg : b < w.heap.size
        · rw [if_pos hg] at hb
          by_cases h : lab b = 6
          · exact .inl (HLAB.out b (by omega))
          · rw [if_neg h] at hb
            by_cases h' : (Value.slice al l.length cl).ownBlock = some b
            · exact .inr (.inr h')
            · rw [if_neg h'] at hb
              exact .inl (HLAB.out b hb)
        · exact .inr (.inl (by omega))
      · subst h
        exact row_ne HR5.out HBX5.out (by decide) e
      · subst h
        exact ht.ne.1 (boxAt_type hb HBX5.out)
      all_goals first
        | exact hnew
        | exact HOV.out.kept hk (fun g hg h => ⟨fun h' => by omega, (if_pos hg).trans ((if_neg (by omega)).trans (if_neg (hz g (by omega))))⟩)
        | exact HOT.out.kept hk (fun g hg h => ⟨fun h' => by omega, (if_pos hg).trans ((if_neg (by omega)).trans (if_neg (hz g (by omega))))⟩)
end Go.Proofs.YtdbbejedipfckaaGreatDoor
/-
  What is read of a program that is handed in: its kinds and their kids lie in memory, within the reach.
-/
namespace Go.Proofs.YtdbbejedipfckaaGreatDoor
open Go Go.RowKit Go.Deep Go.ChangeShapes Go.WideShapes

theorem cellsI : Tryz.prog.cellsOf 3 = 1 := by kernel_rfl
theorem cellsKid : Tryz.prog.cellsOf 108 = 2 := by kernel_rfl
theorem cellsKind : Tryz.prog.cellsOf 111 = 3 := by kernel_rfl
theorem cellsKids : Tryz.prog.cellsOf 109 = 1 := by kernel_rfl
theorem cellsKinds : Tryz.prog.cellsOf 40 = 1 := by kernel_rfl
theorem cellsProgram : Tryz.prog.cellsOf 42 = 3 := by kernel_rfl
theorem bytesKid : Tryz.prog.bytesOf 108 = 16 := by kernel_rfl
theorem bytesKind : Tryz.prog.bytesOf 111 = 40 := by kernel_rfl

theorem addr_plain {W : World} {a : Addr} {i : Nat} {u v : Value} (h0 : W.cell? (a.add 0) = some u) (h : W.cell? (a.add i) = some v) : ∃ b o, a = ⟨b, o, none⟩ ∧ b < W.heap.size ∧ W.cell? ⟨b, o + i, none⟩ = some v := by
  obtain ⟨b, o, spot⟩ := a
  have h1 : spot = none := by simpa [Addr.add] using World.cell?_spot h0
  subst h1
  have h2 := World.block_lt_of_cell? W _ h0
  rw [Addr.add_lit] at h h2
  exact ⟨b, o, rfl, h2, h⟩

theorem list3 {l : List Value} (h : l.length = 3) : ∃ a b c, l = [a, b, c] := by
  match l, h with
  | [a, b, c], _ => exact ⟨a, b, c, rfl⟩

section
variable {H : Type} {enc : TypeId × Value → H} {W : World} {spare : Nat → Bool} {held : Bool}

theorem kids_opened {fuel : Nat} {v : Value} {x : DataW H × List MemPlace} (h : DataW.trod enc Tryz.prog W 0 spare held fuel 109 [v] = some x) :
    ∃ kids : List KidS, KidsAt (fun _ => True) W v kids ∧ (kids.length = 0 ∨ ∃ el sp, x.1 = .slice el sp ∧ el.length = kids.length) := by
  rcases open_slice_pairs Tryz.underlying109 Tryz.underlying108 cellsKid rfl rfl cellsI cellsI h with ⟨h0, -⟩ | ⟨a, len, cap, m, n, V0, V1, D0, D1, P0, P1, h0, -, hlc, hcm, hm, rfl, hx⟩
  · simp only [List.cons.injEq, and_true] at h0
    subst h0
    exact ⟨[], ⟨none, 0, rfl, fun j c hj => by simp at hj⟩, .inl rfl⟩
  · simp only [List.cons.injEq, and_true] at h0
    subst h0
    have hlm : len ≤ m := by rw [hm]; split <;> omega
    obtain ⟨k0, hk0⟩ := choose_lt (α := Int) (n := len) (p := fun i z => V0 i = .int .i64 z) (fun i hi => by
      obtain ⟨_, _, h1, _⟩ := hx i (by omega)
      obtain ⟨z, hz, _⟩ := DataW.trod_int Tryz.underlying3 h1
      exact ⟨z, by simpa using hz⟩)
    obtain ⟨k1, hk1⟩ := choose_lt (α := Int) (n := len) (p := fun i z => V1 i = .int .i64 z) (fun i hi => by
      obtain ⟨_, _, _, h1⟩ := hx i (by omega)
      obtain ⟨z, hz, _⟩ := DataW.trod_int Tryz.underlying3 h1
      exact ⟨z, by simpa using hz⟩)
    refine ⟨(List.range len).map fun i => ⟨k0 i, k1 i⟩, ⟨some a, cap, by simp, fun j c hj => ?_⟩, .inr ⟨_, _, rfl, by simp⟩⟩
    have hjl : j < len := by simpa using (List.getElem?_eq_some_iff.1 hj).1
    simp [hjl] at hj
    subst hj
    obtain ⟨c0, c1, _, _⟩ := hx j (by omega)
    rw [hk0 j hjl] at c0
    rw [hk1 j hjl] at c1
    have a0 := (hx 0 (by omega)).1
    rw [Nat.zero_mul] at a0
    obtain ⟨b, o, rfl, hb, e0⟩ := addr_plain a0 c0
    obtain ⟨b', o', e, _, e1⟩ := addr_plain a0 c1
    cases e
    exact ⟨b, o, rfl, trivial, hb, e0, by rw [Nat.add_assoc]; exact e1⟩

theorem weights_all {e : TypeId} {l : List (DataW H)} {d : DataW H} (hd : d ∈ l) : ∀ n ∈ d.weights Tryz.prog e, n ∈ DataW.weightsAll Tryz.prog e l := by
  induction l with
  | nil => cases hd
  | cons x r ih =>
    intro n hn
    unfold DataW.weightsAll
    rcases List.mem_cons.1 hd with rfl | hd
    · exact List.mem_append_left _ hn
    · exact List.mem_append_right _ (ih hd n hn)

theorem kinds_opened {fuel : Nat} {v : Value} {x : DataW H × List MemPlace} (h : DataW.trod enc Tryz.prog W 0 spare held fuel 40 [v] = some x) (hw : ∀ n ∈ x.1.weights Tryz.prog 40, n ≤ reachBytes) :
    ∃ ks : List KindS, KindsAt (fun _ => True) W v ks ∧ ks.length * 40 ≤ reachBytes ∧ ∀ k ∈ ks, k.kids.length * 16 ≤ reachBytes := by
  rcases open_slice Tryz.underlying40 h with ⟨h0, -⟩ | ⟨a, len, cap, m, n, D, Pl, h0, -, hlc, hcm, hm, rfl, hx⟩
  · simp only [List.cons.injEq, and_true] at h0
    subst h0
    exact ⟨[], ⟨none, 0, rfl, fun j c hj => by simp at hj⟩, by simp, fun k hk => by cases hk⟩
  · simp only [List.cons.injEq, and_true] at h0
    subst h0
    have hlm : len ≤ m := by rw [hm]; split <;> omega
    have hlen : len * 40 ≤ reachBytes := by
      have := hw ((((List.range len).map D).length + ((List.range (m - len)).map fun j => D (len + j)).length) * Tryz.prog.bytesOf 111) (by simp [DataW.weights, Tryz.underlying40])
      rw [bytesKind] at this
      simp only [List.length_map, List.length_range] at this
      have h2 : len * 40 ≤ (len + (m - len)) * 40 := Nat.mul_le_mul_right _ (by omega)
      exact Nat.le_trans h2 this
    have each : ∀ i, i < len → ∃ k : KindS, ∃ kv, W.cell? (a.add (i * 3)) = some (.int .i64 k.A) ∧ W.cell? (a.add (i * 3 + 1)) = some (.int .i64 k.B) ∧ W.cell? (a.add (i * 3 + 2)) = some kv ∧ KidsAt (fun _ => True) W kv k.kids ∧ k.kids.length * 16 ≤ reachBytes := by
      intro i hi
      obtain ⟨cs', h1, h2⟩ := hx i (by omega)
      rw [cellsKind] at h1
      obtain ⟨_, hl, hcell⟩ := World.cells?_some h1
      obtain ⟨y0, y1, y2, n', hD, _, g0, g1, g2⟩ := trod_struct3 Tryz.underlying111 h2
      obtain ⟨v0, v1, v2, rfl⟩ := list3 hl
      have e0 := hcell 0 (by omega)
      have e1 := hcell 1 (by omega)
      have e2 := hcell 2 (by omega)
      rw [add_add] at e0 e1 e2
      simp only [cellsI, cellsKids, List.drop_zero, List.drop_succ_cons, List.take_succ_cons, List.take_zero] at g0 g1 g2
      obtain ⟨z0, hz0, _⟩ := DataW.trod_int Tryz.underlying3 g0
      obtain ⟨z1, hz1, _⟩ := DataW.trod_int Tryz.underlying3 g1
      obtain ⟨kids, hk, hlk⟩ := kids_opened g2
      simp only [List.cons.injEq, and_true] at hz0 hz1
      subst hz0 hz1
      refine ⟨⟨z0, z1, kids⟩, v2, by simpa using e0, by simpa using e1, by simpa using e2, hk, ?_⟩
      rcases hlk with h0 | ⟨el, sp, hy, hel⟩
      · rw [h0]; simp
      · have hDi : D i ∈ (List.range len).map D := List.mem_map.2 ⟨i, List.mem_range.2 hi, rfl⟩
        have := hw ((el.length + sp.length) * Tryz.prog.bytesOf 108) (by
          simp only [DataW.weights, Tryz.underlying40]
          refine List.mem_cons_of_mem _ (List.mem_append_left _ (weights_all hDi _ ?_))
          simp only [Prod.mk.injEq] at hD
          rw [hD.1]
          simp [DataW.weights, DataW.weightsEach, Tryz.underlying111, hy, Tryz.underlying109])
        rw [bytesKid, hel] at this
        have h2 : kids.length * 16 ≤ (kids.length + sp.length) * 16 := Nat.mul_le_mul_right _ (by omega)
        exact Nat.le_trans h2 this
    have hin : Inhabited KindS := ⟨⟨0, 0, []⟩⟩
    obtain ⟨K, hK⟩ := choose_lt each
    refine ⟨(List.range len).map K, ⟨some a, cap, by simp, fun j c hj => ?_⟩, by simpa using hlen, fun k hk => ?_⟩
    · have hjl : j < len := by simpa using (List.getElem?_eq_some_iff.1 hj).1
      simp [hjl] at hj
      subst hj
      obtain ⟨kv, c0, c1, c2, hk, _⟩ := hK j hjl
      obtain ⟨_, a0, _⟩ := hK 0 (by omega)
      rw [Nat.zero_mul] at a0
      obtain ⟨b, o, rfl, hb, e0⟩ := addr_plain a0 c0
      obtain ⟨b1, o1, e, _, e1⟩ := addr_plain a0 c1
      cases e
      obtain ⟨b2, o2, e, _, e2⟩ := addr_plain a0 c2
      cases e
      exact ⟨b, o, kv, rfl, trivial, hb, e0, by rw [Nat.add_assoc]; exact e1, by rw [Nat.add_assoc]; exact e2, hk⟩
    · obtain ⟨i, hi, rfl⟩ := List.mem_map.1 hk
      obtain ⟨_, _, _, _, _, h⟩ := hK i (List.mem_range.1 hi)
      exact h
end
end Go.Proofs.YtdbbejedipfckaaGreatDoor
/-
  Run.Tasks of the project, of a run that is nil and of one in memory: a worker's tasks in a new list.
-/
namespace Go.Proofs.YtdbbejedipfckaaGreatDoor
open Go Go.RowKit Go.Maps

theorem x_tasks_nil (i : Int) (w : World) : Calls Tryz.prog 27 #[.pointer none, .int .i64 i] w fun e w' => e = .returned (.tuple #[.slice none 0 0, .int .i64 1]) ∧ Below w.heap.size w w' := by
  go_enter Tryz.func27, Tryz.ntmps27
  go_wp2_with (first
    | (go_at_call 72; refine (isWorker_calls none i w).mono ?_; rintro e w1 ⟨rfl, hw1⟩; have HW1 := hid_of hw1; clear hw1)
    | (go_at_call 71; refine (ask_nil _ _).mono ?_; rintro e w4 ⟨rfl, hw4⟩; have HW4 := hid_of hw4; clear hw4))
  go_ret2
  have h1 : Below w.heap.size w w1 := by rw [HW1.out]; exact ((Below.refl _ _).alloc (Nat.le_refl _) _).alloc (by simp) _
  exact ⟨rfl, by rw [HW4.out]; exact h1.alloc h1.size _⟩
theorem values_calls (a : Option Addr) (n c : Nat) (w : World) : Calls Tryz.prog 117 #[.slice a n c] w fun e w' => e = .returned (.func (.func 149) #[] #[.pointer (some ⟨w.heap.size, 0, none⟩)]) ∧ w' = w.alloc (Obj.cells #[.slice a n c] 52) := by
  go_enter Tryz.func117, Tryz.ntmps117
  go_wp2_with fail
  go_ret
  exact ⟨rfl, rfl⟩
theorem all_calls (X : Nat → Prop) (T : Nat) (room : Int) (l : List TaskS) (w : World) (ht : TaskListAt X w T room l) : Calls Tryz.prog 74 #[.pointer (some ⟨T, 0, none⟩)] w fun e w' => ∃ Bs v, e = .returned (.func (.func 149) #[] #[.pointer (some ⟨Bs, 0, none⟩)]) ∧ BoxAt w' Bs 52 #[v] ∧ ListAt 3 taskEnc w' v l ∧ w.heap.size ≤ Bs ∧ Below w.heap.size w w' := by
  obtain ⟨tv, hb, -, hr⟩ := ht
  have hL : ListAt 3 taskEnc w tv l := list_of_row (sz := 3) (enc := taskEnc) (fun _ => rfl) hr.1 rfl
  obtain ⟨ta, tc, rfl⟩ := row_form hr.1
  have b0 := hb.cell (o := 0) rfl
  have HL := hid_of hL
  clear hb hr hL
  go_enter Tryz.func74, Tryz.ntmps74
  go_wp2_with (go_at_call 117; refine (values_calls _ _ _ w).mono ?_; rintro e w1 ⟨rfl, hw1⟩; have HW1 := hid_of hw1; clear hw1)
  go_ret
  have h1 : Below w.heap.size w w1 := by rw [HW1.out]; exact (Below.refl _ _).alloc (Nat.le_refl _) _
  exact ⟨_, _, rfl, by rw [HW1.out]; exact BoxAt.new w _ _, HL.out.below h1 (Nat.le_refl _), Nat.le_refl _, h1⟩
set_option maxHeartbeats 2000000 in
set_option maxRecDepth 100000 in
theorem x_tasks_calls (F : Nat → Prop) (B : Nat) (s : RunS) (i : Int) (w : World) (hx : XOK F w B s) (hf : Fits s) :
    Calls Tryz.prog 27 #[.pointer (some ⟨B, 0, none⟩), .int .i64 i] w fun e w' => ∃ v, e = .returned (.tuple #[v, .int .i64 (tasksS s i).2]) ∧
      w'.ownsRow w.heap.size 76 3 v (tasksS s i).1.length ((tasksS s i).1.flatMap taskEnc) ∧ Below w.heap.size w w' := by
  obtain ⟨w1, hw1⟩ : ∃ w1, (w.alloc (Obj.cells #[.pointer (some ⟨B, 0, none⟩)] 37)).alloc (Obj.cells #[.int .i64 i] 3) = w1 := ⟨_, rfl⟩
  obtain ⟨w4, hw4⟩ : ∃ w4, w1.alloc (Obj.cells #[stepVal (115, #[], #[.pointer (some ⟨w.heap.size + 1, 0, none⟩), .pointer (some ⟨w.heap.size, 0, none⟩)])] 129) = w4 := ⟨_, rfl⟩
  have g1 : Below w.heap.size w w1 := by rw [← hw1]; exact ((Below.refl _ _).alloc (Nat.le_refl _) _).alloc (by simp) _
  have g4 : Below w1.heap.size w1 w4 := by rw [← hw4]; exact (Below.refl _ _).alloc (Nat.le_refl _) _
  have hA : HeldAt w4 w.heap.size (w.heap.size + 1) B i := by
    have h : HeldAt w1 w.heap.size (w.heap.size + 1) B i := ⟨by rw [← hw1]; exact (BoxAt.new w _ _).alloc _, by rw [← hw1]; exact boxAt_at _ _ _ _ (by simp)⟩
    exact h.below g4
  have bL : BoxAt w4 w1.heap.size 129 #[stepVal (115, #[], #[.pointer (some ⟨w.heap.size + 1, 0, none⟩), .pointer (some ⟨w.heap.size, 0, none⟩)])] := by rw [← hw4]; exact BoxAt.new w1 _ _
  have hb4 : Below w.heap.size w w4 := g1.trans (g4.mono g1.size)
  have hx4 : XOK F w4 B s := hx.later hb4
  have hlen := hf.len
  have key : Calls Tryz.prog 71 #[.pointer (some ⟨B, 0, none⟩), .slice (some ⟨w1.heap.size, 0, none⟩) 1 1] w4 fun e w' => ∃ r, e = .returned (.int .i64 r) ∧ r = (if i < 0 ∨ s.workers ≤ i then (7 : Int) else 0) ∧ Below w4.heap.size w4 w' := by
    refine ask_calls B _ w4 (fun r w' => r = (if i < 0 ∨ s.workers ≤ i then (7 : Int) else 0) ∧ Below w4.heap.size w4 w') ?_
    refine (inTurn_calls w1.heap.size 1 1 [(115, #[], #[.pointer (some ⟨w.heap.size + 1, 0, none⟩), .pointer (some ⟨w.heap.size, 0, none⟩)])] w4 rfl (by omega)
      (fun j W => if j = 0 then Below w4.heap.size w4 W else 0 = (if i < 0 ∨ s.workers ≤ i then (7 : Int) else 0) ∧ Below w4.heap.size w4 W) (fun r W => r = (if i < 0 ∨ s.workers ≤ i then (7 : Int) else 0) ∧ Below w4.heap.size w4 W) ?_ ?_ ?_ ?_).mono ?_
    · intro j W hJ f hf
      match j, hf with
      | 0, hf => cases hf; simp only [if_true] at hJ; exact (bL.below hJ bL.lt).cell (o := 0) rfl
      | (m + 1), hf => simp at hf
    · intro f hf args W
      simp at hf
      subst hf
      exact enters_of Tryz.func115 (by kernel_rfl) rfl args W
    · intro j f hfj W hJ
      match j, hfj with
      | 0, hfj =>
        cases hfj
        simp only [if_true] at hJ
        refine (isWorker1_calls F B w.heap.size (w.heap.size + 1) s i W (hx4.later hJ) hf (hA.below hJ)).mono ?_
        rintro e w' ⟨rfl, hbw⟩
        have hbUw : Below w4.heap.size w4 w' := hJ.trans (hbw.mono hJ.size)
        by_cases hin : i < 0 ∨ s.workers ≤ i
        · exact ⟨7, by rw [if_pos hin], .inr ⟨by omega, by rw [if_pos hin], hbUw⟩⟩
        · exact ⟨0, by rw [if_neg hin], .inl ⟨rfl, by simp only [Nat.zero_add, Nat.one_ne_zero, if_false]; exact ⟨by rw [if_neg hin], hbUw⟩⟩⟩
      | (m + 1), hfj => simp at hfj
    · exact Below.refl _ _
    · rintro e w' ⟨r, rfl, hr⟩
      refine ⟨r, rfl, ?_⟩
      rcases hr with ⟨rfl, h2⟩ | ⟨_, h2⟩
      · simpa using h2
      · exact h2
  have HKEY := hid_of key
  have HW1 := hid_of hw1
  have HW4 := hid_of hw4
  have HB4 := hid_of hb4
  clear key hw1 hw4 hA bL hb4 g1 g4
  by_cases hin : i < 0 ∨ s.workers ≤ i
  · have ht : tasksS s i = ([], 7) := by unfold tasksS; rw [if_pos hin]
    rw [ht]
    rw [if_pos hin] at HKEY
    clear ht hx hx4 hf hin hlen
    go_enter Tryz.func27, Tryz.ntmps27
    go_wp2_with (first
      | (go_at_call 72; refine (isWorker_calls (some ⟨B, 0, none⟩) i w).mono ?_; rintro e a1 ⟨rfl, hq⟩; obtain rfl : w1 = a1 := HW1.out.symm.trans hq.symm; clear hq)
      | (go_at_call 71; refine Calls.at_world HW4.out ?_; refine HKEY.out.mono ?_; rintro e a4 ⟨r, rfl, rfl, k2⟩))
    go_ret2
    exact ⟨_, rfl, World.ownsRow_nil _ _ _ _, HB4.out.trans (k2.mono HB4.out.size)⟩
  · obtain ⟨k, rfl⟩ := Int.eq_ofNat_of_zero_le (show 0 ≤ i by omega)
    obtain ⟨x, hxk⟩ : ∃ x, s.W[k]? = some x := ⟨_, List.getElem?_eq_getElem (by omega)⟩
    have ht : tasksS s (k : Int) = (x.tasks, 0) := by unfold tasksS; rw [if_neg hin]; simp [hxk]
    have hxl : (x.tasks.length : Int) ≤ 20 := by have h1 := hf.few x (List.mem_of_getElem? hxk); have := hf.rmax; omega
    rw [ht]
    rw [if_neg hin] at HKEY
    obtain ⟨part, kv, yv, g, c, M, T, xs, y, -, h, -, -, htl, hc, hkl⟩ := x_worker hx hxk
    have hb := h.box
    have hrw := h.wrow
    clear h
    have hgl := (hrw.1.lt g rfl).2
    have HB := hid_of hb
    have HTL := hid_of htl
    have HC := hid_of hc
    have hbl := hb.lt
    have j1 : (0 : Int) ≤ (k : Int) := by omega
    have j2 : (k : Int) < (xs.length : Int) := by omega
    clear ht hx hx4 hf hin hlen hb htl hc hrw hxk
    go_enter Tryz.func27, Tryz.ntmps27
    go_upto_region 4 with (first
      | (go_at_call 72; refine (isWorker_calls (some ⟨B, 0, none⟩) k w).mono ?_; rintro e a1 ⟨rfl, hq⟩; obtain rfl : w1 = a1 := HW1.out.symm.trans hq.symm; clear hq)
      | (go_at_call 71; refine Calls.at_world HW4.out ?_; refine HKEY.out.mono ?_; rintro e w5 ⟨r, rfl, rfl, k2⟩))
    have hb5 : Below w.heap.size w w5 := HB4.out.trans (k2.mono HB4.out.size)
    have s5 := hb5.size
    have b3 := (HB.out.below hb5 hbl).cell (o := 3) rfl
    have e0 := (hb5.cell (p := ⟨g, k * 4, none⟩) hgl).trans HC.out
    have HB5 := hid_of hb5
    have HALL := hid_of (all_calls _ T s.room x.tasks w5 (HTL.out.kept (Kept.of_below hb5 (X := fun b => w.heap.size ≤ b) (fun _ _ h => h)) (fun g hg h => ⟨by omega, h⟩)))
    have HCO : Hid (∀ w6 Bs v6, BoxAt w6 Bs 52 #[v6] → ListAt 3 taskEnc w6 v6 x.tasks → Calls Tryz.prog 73 #[.func (.func 149) #[] #[.pointer (some ⟨Bs, 0, none⟩)]] w6 fun e w' => ∃ v, e = .returned v ∧ w'.ownsRow w6.heap.size 76 3 v x.tasks.length (x.tasks.flatMap taskEnc) ∧ Below w6.heap.size w6 w') := fun w6 Bs v6 hBs hL6 => by
      refine collect_calls _ _ x.tasks w6 (by omega) (enters_of Tryz.func149 (by kernel_rfl) rfl) (fun n X W hW hX => values1_seqY n Bs X v6 x.tasks W (hBs.below hW hBs.lt) (hL6.below hW (Nat.le_refl _)) (fun g' o m c' e hm hXg => ?_) (by omega))
      obtain ⟨a9, c9, h9, hc9⟩ := hL6
      rw [h9] at e
      simp only [Value.slice.injEq] at e
      obtain ⟨g9, o9, ha9, hg9, _⟩ := hc9 0 _ (List.getElem?_eq_getElem (show 0 < x.tasks.length by omega))
      rw [ha9] at e
      have := hX g' hXg
      simp at e
    clear k2 hb5
    go_wp2_with (first
      | (go_at_call 74; refine HALL.out.mono ?_; rintro e w6 ⟨Bs, v6, rfl, hBs, hL6, hBl, hb6⟩)
      | (go_at_call 73; refine (HCO.out w6 Bs v6 hBs hL6).mono ?_; rintro e w7 ⟨v7, rfl, hrow7, hb7⟩))
    go_ret2
    have s6 := hb6.size
    refine ⟨_, rfl, ownsRow_base hrow7 (by omega), (HB5.out.trans (hb6.mono s5)).trans (hb7.mono (by omega))⟩
end Go.Proofs.YtdbbejedipfckaaGreatDoor
