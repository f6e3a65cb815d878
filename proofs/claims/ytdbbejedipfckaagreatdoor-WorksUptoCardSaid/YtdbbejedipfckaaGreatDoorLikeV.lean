/-
  gleanlaw.sameT calls two lists that hold the same the same.
-/
import Derived.Test.YtdbbejedipfckaaGreatDoorRefTasks
import Derived.Test.YtdbbejedipfckaaGreatDoorBookState
import Derived.Test.YtdbbejedipfckaaGreatDoorMarkerT
namespace Go.Proofs.YtdbbejedipfckaaGreatDoor
open Go Go.RowKit

theorem heldT : Tryz.prog.stoodInHeld 76 = false := by kernel_rfl
theorem guardT : Tryz.prog.eqGuardType Tryz.prog.depth 76 = false := by kernel_rfl

set_option maxHeartbeats 4000000 in
set_option maxRecDepth 100000 in
theorem likeT_calls (va vb : Value) (l : List TaskS) (w : World) (ha : ListAt 3 taskEnc w va l) (hb : ListAt 3 taskEnc w vb l) (hl : l.length ≤ 9223372036854775806) :
    Calls Tryz.prog 38 #[va, vb] w fun e w' => e = .returned (.bool true) ∧ Below w.heap.size w w' := by
  obtain ⟨a, cap, rfl, hca⟩ := ha
  obtain ⟨b, cap', rfl, hcb⟩ := hb
  have hs := heldT
  have hg := guardT
  go_enter Tryz.func38, Tryz.ntmps38
  go_wp2_with fail
  go_loopw [5] (fun i wr => ∃ k : Nat, k ≤ l.length ∧ i = .int .i64 k ∧ Below w.heap.size w wr) (fun i _ => l.length - (intOf i).toNat)
  case atStart => exact ⟨0, Nat.zero_le _, rfl, Below.refl _ _⟩
  case round =>
    obtain ⟨k, hk, rfl, hbw⟩ := hrel
    by_cases hlt : k < l.length
    · obtain ⟨x, hx⟩ : ∃ x, l[k]? = some x := ⟨_, List.getElem?_eq_getElem hlt⟩
      obtain ⟨g, o, rfl, hgl, hc⟩ := hca k x hx
      obtain ⟨g', o', rfl, hgl', hd⟩ := hcb k x hx
      have c0 := (hbw.cell (p := ⟨g, o + k * 3 + 0, none⟩) hgl).trans (hc 0 _ rfl)
      have d0 := (hbw.cell (p := ⟨g', o' + k * 3 + 0, none⟩) hgl').trans (hd 0 _ rfl)
      have c1 := (hbw.cell (p := ⟨g, o + k * 3 + 1, none⟩) hgl).trans (hc 1 _ rfl)
      have d1 := (hbw.cell (p := ⟨g', o' + k * 3 + 1, none⟩) hgl').trans (hd 1 _ rfl)
      have c2 := (hbw.cell (p := ⟨g, o + k * 3 + 2, none⟩) hgl).trans (hc 2 _ rfl)
      have d2 := (hbw.cell (p := ⟨g', o' + k * 3 + 2, none⟩) hgl').trans (hd 2 _ rfl)
      rw [Nat.add_zero] at c0 d0
      have i1 : (0 : Int) ≤ (k : Int) := by omega
      have i2 : (k : Int) < (l.length : Int) := by omega
      clear hca hcb hc hd
      go_wp2_with fail
      go_quiet (fail)
      go_wp2_with fail
      go_roundw
      case rel => exact ⟨k + 1, by omega, by go_num, below_drewN hbw _⟩
      case measure => simp [intOf]; omega
    · go_wp2_with fail
      go_ret
      exact ⟨rfl, hbw⟩
end Go.Proofs.YtdbbejedipfckaaGreatDoor
/-
  gleanlaw's Books.tasks takes a list that came out: the one that was kept is as it came, and is marked; then this one is kept, or marked.
-/
namespace Go.Proofs.YtdbbejedipfckaaGreatDoor
open Go Go.RowKit

set_option maxHeartbeats 8000000 in
set_option maxRecDepth 100000 in
theorem takeT_calls (F : Nat → Prop) (B N came : Nat) (lv : Value) (l : List TaskS) (w : World) (hI : BooksOK F w B N came)
    (hl : w.ownsRow 0 76 3 lv l.length (l.flatMap taskEnc)) (hlF : ∀ g, lv.ownBlock = some g → ¬ F g) (hn : l.length ≤ 1000000) (hN : N ≤ 300000000000) (hcm : came ≤ 300000000000) :
    Calls Tryz.prog 39 #[.pointer (some ⟨B, 0, none⟩), lv] w fun e w' => e = .returned (.tuple #[]) ∧ ∃ N', N' ≤ N + 2 ∧ BooksOK (fun b => F b ∨ w.heap.size ≤ b ∨ lv.ownBlock = some b) w' B N' (came + 1) ∧ Kept (fun b => F b ∨ lv.ownBlock = some b) w w' := by
  obtain ⟨i1, hi1, hy0, hy1, hy2⟩ := info_parts infoTask
  obtain ⟨lab, kV, wV, kT, wT, kM, wM, lV, lT, lM, bs, hlab, hbs, hX, hKV, hKT, hKM⟩ := hI
  have HLAB : Hid (∀ b, lab b ≠ 0 → F b) := hlab
  have HI : Hid (BooksX (fun b => lab b = 1) (fun b _ => lab b = 1) w B N came kV wV kT wT kM wM bs) := hX
  have HOV : Hid (KeptL 84 2 valEnc lab 2 3 w kV wV lV) := hKV
  have HOM : Hid (KeptL 139 15 msgEnc lab 6 7 w kM wM lM) := hKM
  have HK : Hid (KeptL 76 3 taskEnc lab 4 5 w kT wT lT) := hKT
  obtain ⟨hkr, hkl, hwr, hwl, hn0⟩ := hKT
  have HKR : Hid (w.ownsRow 0 76 3 kT lT.length (lT.flatMap taskEnc)) := hkr
  have HKL : Hid (∀ g, kT.ownBlock = some g → lab g = 4) := hkl
  have HW : Hid (ListAt 3 taskEnc w wT lT) := list_of_row (sz := 3) (enc := taskEnc) (fun _ => rfl) hwr rfl
  have HL : Hid (w.ownsRow 0 76 3 lv l.length (l.flatMap taskEnc)) := hl
  have HLF : Hid (∀ g, lv.ownBlock = some g → lab g = 0) := fun g e => by
    rcases Nat.eq_zero_or_pos (lab g) with h | h
    · exact h
    · exact absurd (hlab g (by omega)) (hlF g e)
  have HLF0 : Hid (∀ g, lv.ownBlock = some g → ¬ F g) := hlF
  have HBS : Hid (bs.length = 4 * N) := hbs
  have hBl : B < w.heap.size := by obtain ⟨_, hb, _⟩ := hX; exact hb.lt
  have hFB0 : lab B = 1 := by obtain ⟨_, _, _, hb, _⟩ := hX; exact hb
  obtain ⟨al, cl, rfl⟩ := row_form hl
  clear hlab hX hl hlF hkr hkl hwr hwl hbs
  clear hKV
  clear hKM
  go_enter Tryz.func39, Tryz.ntmps39
  go_upto_region 2 with (at_builtin; refine wpList_append_row rfl _ _ _ rfl 76 i1 _ 3 32 Tryz.underlying52 hi1 hy0 hy1 hy2 rfl (by omega) rfl 0 (.slice al l.length cl) l.length (l.flatMap taskEnc) rfl HL.out (flat_one taskEnc_one _) (by unfold maxLen; omega) (by omega) ?_; intro wv w1 hrow1 hk1)
  obtain ⟨aw, cw, rfl⟩ := row_form hrow1
  have HI1 : Hid (BooksX (fun g => lab g = 1 ∧ g < w.heap.size) (fun g _ => lab g = 1 ∧ g < w.heap.size) w1 B N came kV wV kT wT kM wM bs) := HI.out.kept hk1 (fun _ _ _ h => h) (fun _ _ _ _ h => h) (fun _ h1 h => ⟨h, h1⟩) (fun _ _ h1 h => ⟨h, h1⟩)
  have HROW1 : Hid (w1.ownsRow w.heap.size 76 3 (.slice aw l.length cw) l.length (l.flatMap taskEnc)) := hrow1
  have HK1 : Hid (Kept (fun _ => False) w w1) := hk1
  have HKR1 : Hid (w1.ownsRow 0 76 3 kT lT.length (lT.flatMap taskEnc)) := row_kept HKR.out hk1 (fun _ _ h => h) (Nat.le_refl _)
  have HW1 : Hid (ListAt 3 taskEnc w1 wT lT) := HW.out.below (hk1.below (Nat.le_refl _) (fun _ h => h.elim)) (Nat.le_refl _)
  have hsz1 := hk1.size
  obtain ⟨vA1, hb1, -⟩ := HI1.out
  have b3 := hb1.cell (o := 5) rfl
  have b4 := hb1.cell (o := 6) rfl
  have HS : Hid (∀ W, Below w1.heap.size w1 W → Calls Tryz.prog 38 #[kT, wT] W fun e w' => ∃ v, e = .returned v ∧ v = .bool true ∧ Below w1.heap.size w1 w') := fun W hW =>
    (likeT_calls _ _ lT W ((list_of_row (sz := 3) (enc := taskEnc) (fun _ => rfl) HKR1.out rfl).below hW (Nat.le_refl _)) (HW1.out.below hW (Nat.le_refl _)) (by omega)).mono fun e w' h => ⟨_, h.1, rfl, hW.trans (h.2.mono hW.size)⟩
  clear hrow1 hk1 hb1
  go_cut [5] (fun s wx => s = .bool true ∧ Below w1.heap.size w1 wx)
  case first =>
    go_region_law (refine step_call2 (by rfl) 38 _ _ _ (by rfl) kT wT (by rfl) (by rfl) (enters_of Tryz.func38 (by kernel_rfl) rfl) (HS.out _ (by first | exact Below.refl _ _ | exact (Below.refl _ _).drew)) ?_; rintro v9 w9 ⟨rfl, hb9⟩)
    all_goals
      go_wp2_with fail
      go_meet
      case rel => exact ⟨rfl, by assumption⟩
  case rest =>
    obtain ⟨rfl, hb2⟩ := hcut
    rename World => w2
    have hsz2 := hb2.size
    have k2 : Kept (fun b => w1.heap.size ≤ b) w1 w2 := Kept.of_below hb2 (fun _ _ h => h)
    have HI2 : Hid (BooksX (fun g => (lab g = 1 ∧ g < w.heap.size) ∨ w2.heap.size ≤ g) (fun g _ => (lab g = 1 ∧ g < w.heap.size) ∨ w2.heap.size ≤ g) w2 B (N : Nat) came kV wV kT wT kM wM bs) := HI1.out.kept k2 (fun _ _ h1 h => by omega) (fun _ _ _ h1 h => by omega) (fun _ _ h => .inl h) (fun _ _ _ h => .inl h)
    have HROW2 : Hid (w2.ownsRow w.heap.size 76 3 (.slice aw l.length cw) l.length (l.flatMap taskEnc)) := row_kept HROW1.out k2 (fun g e h => by have := (HROW1.out.lt g e).2; omega) (Nat.le_refl _)
    have HKR2 : Hid (w2.ownsRow 0 76 3 kT lT.length (lT.flatMap taskEnc)) := row_kept HKR1.out k2 (fun g e h => by have := (HKR.out.lt g e).2; omega) (Nat.le_refl _)
    have HL2 : Hid (w2.ownsRow 0 76 3 (.slice al l.length cl) l.length (l.flatMap taskEnc)) := row_kept (row_kept HL.out HK1.out (fun _ _ h => h) (Nat.le_refl _)) k2 (fun g e h => by have := (HL.out.lt g e).2; omega) (Nat.le_refl _)
    have HK2 : Hid (Kept (fun b => w1.heap.size ≤ b) w1 w2) := k2
    obtain ⟨vA2, hbx2, -⟩ := HI2.out
    clear b3 b4
    have b3 := hbx2.cell (o := 5) rfl
    clear hbx2 k2
    go_upto_region 4 with (go_at_call 79; refine (markerT_calls (fun g => (lab g = 1 ∧ g < w.heap.size) ∨ w2.heap.size ≤ g) B N came kV wV kT wT kM wM kT bs lT.length (lT.flatMap taskEnc) w2 (fun b h => .inr h) HI2.out HKR2.out (fun g e h => by have h1 := HKR.out.lt g e; have h2 := HKL.out g e; omega) (by omega) (by rw [HBS.out]; omega) (by omega)).mono ?_; rintro e w3 ⟨rfl, bs3, hlen3, hI3, hk3⟩)
    have HK3 : Hid (Kept (fun g => ((lab g = 1 ∧ g < w.heap.size) ∨ w2.heap.size ≤ g) ∨ kT.ownBlock = some g) w2 w3) := hk3
    have hsz3 := hk3.size
    have HLEN3 : Hid (bs3.length = 4) := hlen3
    have HROW3 : Hid (w3.ownsRow w.heap.size 76 3 (.slice aw l.length cw) l.length (l.flatMap taskEnc)) := row_kept HROW2.out HK3.out (fun g e h => by have h1 := HROW1.out.lt g e; rcases h with (⟨_, h⟩ | h) | h; omega; omega; have := HKR.out.lt g h; omega) (Nat.le_refl _)
    have HL3 : Hid (w3.ownsRow 0 76 3 (.slice al l.length cl) l.length (l.flatMap taskEnc)) := row_kept HL2.out HK3.out (fun g e h => by have h1 := HL.out.lt g e; have h2 := HLF.out g e; rcases h with (⟨h, _⟩ | h) | h; omega; omega; have h3 := HKL.out g h; omega) (Nat.le_refl _)
    obtain ⟨vA3, hb3, hr3, hFB3, hFA3, hm3⟩ := hI3
    have HB3 : Hid (BoxAt w3 B 56 (booksCells (N + 1 : Nat) came kV wV kT wT kM wM vA3)) := hb3
    have HR3 : Hid (w3.ownsRow 0 106 4 vA3 (bs ++ bs3).length (bkCells (bs ++ bs3))) := hr3
    have HFA3 : Hid (∀ g, vA3.ownBlock = some g → ((lab g = 1 ∧ g < w.heap.size) ∨ w2.heap.size ≤ g) ∨ kT.ownBlock = some g) := hFA3
    have HM3 : Hid (∀ x ∈ bs ++ bs3, MarkedB w3 (fun g _ => ((lab g = 1 ∧ g < w.heap.size) ∨ w2.heap.size ≤ g) ∨ kT.ownBlock = some g) x) := hm3
    have HFB3 : Hid ((fun g => ((lab g = 1 ∧ g < w.heap.size) ∨ w2.heap.size ≤ g) ∨ kT.ownBlock = some g) B) := hFB3
    clear hb3 hr3 hFB3 hFA3 hm3 hk3 hlen3 b3
    go_upto_region 5 with (go_at_call 38; refine (likeT_calls _ _ l w3 (list_of_row (sz := 3) (enc := taskEnc) (fun _ => rfl) HL3.out rfl) (list_of_row (sz := 3) (enc := taskEnc) (fun _ => rfl) HROW3.out rfl) (by omega)).mono ?_; rintro e w4 ⟨rfl, hb4⟩)
    have hsz4 := hb4.size
    have k4 : Kept (fun b => w3.heap.size ≤ b) w3 w4 := Kept.of_below hb4 (fun _ _ h => h)
    have HB4 : Hid (BoxAt w4 B 56 (booksCells (N + 1 : Nat) came kV wV kT wT kM wM vA3)) := HB3.out.kept k4 (by omega)
    have bx4 := HB4.out
    have c1 := bx4.cell (o := 1) rfl
    have c2 := bx4.cell (o := 2) rfl
    have c3 := bx4.cell (o := 5) rfl
    have c4 := bx4.cell (o := 6) rfl
    have f1 := bx4.frozen 1
    have f2 := bx4.frozen 2
    have f3 := bx4.frozen 5
    have f4 := bx4.frozen 6
    have HK4 : Hid (Kept (fun b => w3.heap.size ≤ b) w3 w4) := k4
    clear bx4 k4 hb4
    have cw1 : IntKind.i64.wrap ((came : Int) + 1) = (came : Int) + 1 := IntWalk.i64_in _ (by omega)
    have HNF : Hid (∀ g, g < w.heap.size → ((((lab g = 1 ∧ g < w.heap.size) ∨ w2.heap.size ≤ g) ∨ kT.ownBlock = some g) → lab g = 1 ∨ lab g = 4)) := fun g hg h => by
      rcases h with (h | h) | h
      · exact .inl h.1
      · omega
      · exact .inr (HKL.out g h)
    have hc1 : ((N + 1 : Nat) : Int) = (N : Int) + 1 := by omega
    go_upto_region 9 with fail
    obtain ⟨W5, hW5⟩ : ∃ W5, (((w4.setCell ⟨B, 2, none⟩ (.bool false)).setCell ⟨B, 5, none⟩ (.slice none 0 0)).setCell ⟨B, 6, none⟩ (.slice none 0 0)).setCell ⟨B, 1, none⟩ (.int .i64 ((came : Int) + 1)) = W5 := ⟨_, rfl⟩
    have k5 : Kept (· = B) w4 W5 := by rw [← hW5]; exact ((((Kept.refl _ _).setCell (.inl (by rfl)) _).setCell (.inl (by rfl)) _).setCell (.inl (by rfl)) _).setCell (.inl (by rfl)) _
    have bx5 : BoxAt W5 B 56 (booksCells (N + 1 : Nat) ((came : Int) + 1) kV wV (.slice none 0 0) (.slice none 0 0) kM wM vA3) := by rw [← hW5]; exact (((HB4.out.setAt 2 _).setAt 5 _).setAt 6 _).setAt 1 _
    rw [hW5]
    clear hW5
    have k35 : Kept (fun b => b = B ∨ w3.heap.size ≤ b) w3 W5 := (HK4.out.mono (fun _ _ h => .inr h)).trans (k5.mono (fun _ _ h => .inl h))
    have HK35 : Hid (Kept (fun b => b = B ∨ w3.heap.size ≤ b) w3 W5) := k35
    have hsz5 := k35.size
    have HR5 : Hid (W5.ownsRow 0 106 4 vA3 (bs ++ bs3).length (bkCells (bs ++ bs3))) := by
      refine row_kept HR3.out k35 (fun g e h => ?_) (Nat.le_refl _)
      rcases h with rfl | h
      · exact row_ne HR3.out HB3.out (by decide) e
      · have := (HR3.out.lt g e).2
        omega
    have HM5 : Hid (∀ x ∈ bs ++ bs3, MarkedB W5 (fun g _ => ((lab g = 1 ∧ g < w.heap.size) ∨ w2.heap.size ≤ g) ∨ kT.ownBlock = some g) x) := fun x hx => by
      refine (HM3.out x hx).kept k35 (fun g n t cs ht hb _ h => ?_) (fun g n t cs ht hb h => h)
      rcases h with rfl | h
      · exact ht.ne.1 (boxAt_type hb HB3.out)
      · have := hb.lt
        omega
    have HI5 : Hid (BooksX (fun g => ((lab g = 1 ∧ g < w.heap.size) ∨ w2.heap.size ≤ g) ∨ kT.ownBlock = some g) (fun g _ => ((lab g = 1 ∧ g < w.heap.size) ∨ w2.heap.size ≤ g) ∨ kT.ownBlock = some g) W5 B (N + 1 : Nat) ((came : Int) + 1) kV wV (.slice none 0 0) (.slice none 0 0) kM wM (bs ++ bs3)) := ⟨vA3, bx5, HR5.out, HFB3.out, HFA3.out, HM5.out⟩
    have HL5 : Hid (W5.ownsRow 0 76 3 (.slice al l.length cl) l.length (l.flatMap taskEnc)) := row_kept HL3.out k35 (fun g e h => by
      rcases h with rfl | h
      · exact row_ne HL3.out HB3.out (by decide) e
      · have := (HL3.out.lt g e).2
        omega) (Nat.le_refl _)
    have HROW5 : Hid (W5.ownsRow w.heap.size 76 3 (.slice aw l.length cw) l.length (l.flatMap taskEnc)) := row_kept HROW3.out k35 (fun g e h => by
      rcases h with rfl | h
      · exact row_ne HROW3.out HB3.out (by decide) e
      · have := (HROW3.out.lt g e).2
        omega) (Nat.le_refl _)
    have k12 : Kept (fun b => lab b = 1 ∨ lab b = 4) w w2 := (HK1.out.mono (fun _ _ h => h.elim)).andThen HK2.out (fun b h1 h2 => by omega)
    have k15 : Kept (fun b => lab b = 1 ∨ lab b = 4) w W5 := (k12.andThen HK3.out (fun b h1 h2 => HNF.out b h1 h2)).andThen k35 (fun b h1 h2 => by
      rcases h2 with rfl | h2
      · exact .inl hFB0
      · omega)
    have HK15 : Hid (Kept (fun b => lab b = 1 ∨ lab b = 4) w W5) := k15
    have HLT1 : Hid (∀ g, (Value.slice aw l.length cw).ownBlock = some g → w.heap.size ≤ g ∧ g < w1.heap.size) := HROW1.out.lt
    have e1 := bx5.cell (o := 1) rfl
    clear k15 k12 k35 k5 c1 c2 c3 c4 f1 f2 f3 f4
    have hz : ∀ g, lab g ≠ 0 → (Value.slice al l.length cl).ownBlock ≠ some g := fun g h e => h (HLF.out g e)
    by_cases hpar : (came + 1) % 2 = 0
    · have hp1 : ((came : Int) + 1) % 2 = 0 := by omega
      have hp2 : ((came : Int) + 1).tmod 2 = 0 := by rw [Int.tmod_eq_emod_of_nonneg (by omega)]; exact hp1
      clear bx5
      go_wp2_with (go_at_call 79; refine (markerT_calls (fun g => ((lab g = 1 ∧ g < w.heap.size) ∨ w2.heap.size ≤ g) ∨ kT.ownBlock = some g) B (N + 1) ((came : Int) + 1) kV wV (.slice none 0 0) (.slice none 0 0) kM wM (.slice al l.length cl) (bs ++ bs3) l.length (l.flatMap taskEnc) W5 (fun b h => .inl (.inr (by omega))) HI5.out HL5.out (fun g e h => by have h1 := HL.out.lt g e; have h2 := HLF.out g e; have h3 := HNF.out g h1.2 h; omega) (by omega) (by rw [List.length_append, HBS.out, HLEN3.out]; omega) (by omega)).mono ?_; rintro e w6 ⟨rfl, bs6, hlen6, hI6, hk6⟩)
      go_end0
      have hk : Kept (fun b => (lab b = 1 ∨ lab b = 4) ∨ (Value.slice al l.length cl).ownBlock = some b) w w6 := (HK15.out.mono (fun _ _ h => .inl h)).andThen hk6 (fun b h1 h2 => by
        rcases h2 with h2 | h2
        · exact .inl (HNF.out b h1 h2)
        · exact .inr h2)
      have hlab' : ∀ g, (((lab g = 1 ∧ g < w.heap.size) ∨ w2.heap.size ≤ g) ∨ kT.ownBlock = some g) ∨ (Value.slice al l.length cl).ownBlock = some g → (fun b => if b < w.heap.size then (if lab b = 4 ∨ (Value.slice al l.length cl).ownBlock = some b then 1 else lab b) else 1) g = 1 := fun g h => by
        dsimp only
        by_cases hg : g < w.heap.size
        · rw [if_pos hg]
          rcases h with h | h
          · rcases HNF.out g hg h with h | h
            · split <;> simp [h]
            · rw [if_pos (.inl h)]
          · rw [if_pos (.inr h)]
        · rw [if_neg hg]
      refine ⟨rfl, N + 2, by omega, ⟨fun b => if b < w.heap.size then (if lab b = 4 ∨ (Value.slice al l.length cl).ownBlock = some b then 1 else lab b) else 1, kV, wV, .slice none 0 0, .slice none 0 0, kM, wM, lV, [], lM, (bs ++ bs3) ++ bs6, fun b hb => ?_, by rw [List.length_append, List.length_append, HBS.out, HLEN3.out, hlen6]; omega, hI6.kept (Kept.refl (fun _ => False) _) (fun _ _ _ h => h) (fun _ _ _ _ h => h) (fun g _ h => hlab' g h) (fun g _ _ h => hlab' g h), ?_, ?_, ?_⟩, ?_⟩
      · dsimp only at hb
        by_cases hg : b < w.heap.size
        · rw [if_pos hg] at hb
          by_cases h : lab b = 4 ∨ (Value.slice al l.length cl).ownBlock = some b
          · rcases h with h | h
            · exact .inl (HLAB.out b (by omega))
            · exact .inr (.inr h)
          · rw [if_neg h] at hb
            exact .inl (HLAB.out b hb)
        · exact .inr (.inl (by omega))
      all_goals first
        | exact KeptL.nil _ _ _ _ _ _ _
        | exact hk.mono (fun b _ h => h.elim (fun h => .inl (HLAB.out b (by omega))) .inr)
        | exact HOV.out.kept hk (fun g hg h => ⟨fun h' => h'.elim (fun h' => by omega) (hz g (by omega)), (if_pos hg).trans (if_neg (fun h' => h'.elim (fun h' => by omega) (hz g (by omega))))⟩)
        | exact HOM.out.kept hk (fun g hg h => ⟨fun h' => h'.elim (fun h' => by omega) (hz g (by omega)), (if_pos hg).trans (if_neg (fun h' => h'.elim (fun h' => by omega) (hz g (by omega))))⟩)
    · have hp1 : ((came : Int) + 1) % 2 = 1 := by omega
      have hp2 : ((came : Int) + 1).tmod 2 = 1 := by rw [Int.tmod_eq_emod_of_nonneg (by omega)]; exact hp1
      have f3 := bx5.frozen 5
      have f4 := bx5.frozen 6
      have c3 := bx5.cell (o := 5) rfl
      have c4 := bx5.cell (o := 6) rfl
      have HBX5 : Hid (BoxAt W5 B 56 (booksCells (N + 1 : Nat) ((came : Int) + 1) kV wV (.slice none 0 0) (.slice none 0 0) kM wM vA3)) := bx5
      clear bx5
      go_wp2_with fail
      go_end0
      obtain ⟨W6, hW6⟩ : ∃ W6, (W5.setCell ⟨B, 5, none⟩ (.slice al l.length cl)).setCell ⟨B, 6, none⟩ (.slice aw l.length cw) = W6 := ⟨_, rfl⟩
      have k6 : Kept (· = B) W5 W6 := by rw [← hW6]; exact ((Kept.refl _ _).setCell (.inl (by rfl)) _).setCell (.inl (by rfl)) _
      have bx6 : BoxAt W6 B 56 (booksCells (N + 1 : Nat) ((came : Int) + 1) kV wV (.slice al l.length cl) (.slice aw l.length cw) kM wM vA3) := by rw [← hW6]; exact (HBX5.out.setAt 5 _).setAt 6 _
      rw [hW6]
      have hk : Kept (fun b => lab b = 1 ∨ lab b = 4) w W6 := HK15.out.andThen k6 (fun b _ h => by subst h; exact .inl hFB0)
      have hlab' : ∀ g, ((lab g = 1 ∧ g < w.heap.size) ∨ w2.heap.size ≤ g) ∨ kT.ownBlock = some g → (fun b => if b < w.heap.size then (if lab b = 4 then 1 else if (Value.slice al l.length cl).ownBlock = some b then 4 else lab b) else if b < w1.heap.size then 5 else 1) g = 1 := fun g h => by
        dsimp only
        by_cases hg : g < w.heap.size
        · rw [if_pos hg]
          rcases HNF.out g hg h with h' | h'
          · rw [if_neg (by omega), if_neg (fun e => by have := HLF.out g e; omega)]; exact h'
          · rw [if_pos h']
        · rw [if_neg hg, if_neg]
          rcases h with (h | h) | h
          · omega
          · omega
          · have := (HKR.out.lt g h).2
            omega
      have hnew : KeptL 76 3 taskEnc (fun b => if b < w.heap.size then (if lab b = 4 then 1 else if (Value.slice al l.length cl).ownBlock = some b then 4 else lab b) else if b < w1.heap.size then 5 else 1) 4 5 W6 (.slice al l.length cl) (.slice aw l.length cw) l := by
        refine ⟨row_kept HL5.out k6 (fun g e h => ?_) (Nat.le_refl _), fun g e => ?_, ownsRow_base (row_kept HROW5.out k6 (fun g e h => ?_) (Nat.le_refl _)) (Nat.zero_le _), fun g e => ?_, hn⟩
        · subst h
          exact row_ne HL5.out HBX5.out (by decide) e
        · have h1 := (HL.out.lt g e).2
          have h2 := HLF.out g e
          dsimp only
          rw [if_pos h1, if_neg (by omega), if_pos e]
        · subst h
          exact row_ne HROW5.out HBX5.out (by decide) e
        · have h1 := HLT1.out g e
          dsimp only
          rw [if_neg (by omega), if_pos h1.2]
      refine ⟨rfl, N + 1, by omega, ⟨fun b => if b < w.heap.size then (if lab b = 4 then 1 else if (Value.slice al l.length cl).ownBlock = some b then 4 else lab b) else if b < w1.heap.size then 5 else 1, kV, wV, .slice al l.length cl, .slice aw l.length cw, kM, wM, lV, l, lM, bs ++ bs3, fun b hb => ?_, by rw [List.length_append, HBS.out, HLEN3.out]; omega, ⟨vA3, bx6, row_kept HR5.out k6 (fun g e h => ?_) (Nat.le_refl _), hlab' B HFB3.out, fun g e => hlab' g (HFA3.out g e), fun x hx => (HM5.out x hx).kept k6 (fun g n t cs ht hb _ h => ?_) (fun g _ _ _ _ _ h => hlab' g h)⟩, ?_, ?_, ?_⟩, hk.mono (fun b _ h => .inl (HLAB.out b (by omega)))⟩
      · dsimp only at hb
        by_cases hg : b < w.heap.size
        · rw [if_pos hg] at hb
          by_cases h : lab b = 4
          · exact .inl (HLAB.out b (by omega))
          · rw [if_neg h] at hb
            by_cases h' : (Value.slice al l.length cl).ownBlock = some b
            · exact .inr (.inr h')
            · rw [if_neg h'] at hb
              exact .inl (HLAB.out b hb)
        · exact .inr (.inl (by omega))
      · subst h
        exact row_ne HR5.out HBX5.out (by decide) e
      · subst h
        exact ht.ne.1 (boxAt_type hb HBX5.out)
      all_goals first
        | exact hnew
        | exact HOV.out.kept hk (fun g hg h => ⟨fun h' => by omega, (if_pos hg).trans ((if_neg (by omega)).trans (if_neg (hz g (by omega))))⟩)
        | exact HOM.out.kept hk (fun g hg h => ⟨fun h' => by omega, (if_pos hg).trans ((if_neg (by omega)).trans (if_neg (hz g (by omega))))⟩)
end Go.Proofs.YtdbbejedipfckaaGreatDoor
/-
  gleanlaw.sameV calls two lists that hold the same the same.
-/
namespace Go.Proofs.YtdbbejedipfckaaGreatDoor
open Go Go.RowKit

theorem heldV : Tryz.prog.stoodInHeld 84 = false := by kernel_rfl
theorem guardV : Tryz.prog.eqGuardType Tryz.prog.depth 84 = false := by kernel_rfl

set_option maxHeartbeats 4000000 in
set_option maxRecDepth 100000 in
theorem likeV_calls (va vb : Value) (l : List (ByteArray × Int)) (w : World) (ha : ListAt 2 valEnc w va l) (hb : ListAt 2 valEnc w vb l) (hl : l.length ≤ 9223372036854775806) :
    Calls Tryz.prog 45 #[va, vb] w fun e w' => e = .returned (.bool true) ∧ Below w.heap.size w w' := by
  obtain ⟨a, cap, rfl, hca⟩ := ha
  obtain ⟨b, cap', rfl, hcb⟩ := hb
  have hs := heldV
  have hg := guardV
  go_enter Tryz.func45, Tryz.ntmps45
  go_wp2_with fail
  go_loopw [5] (fun i wr => ∃ k : Nat, k ≤ l.length ∧ i = .int .i64 k ∧ Below w.heap.size w wr) (fun i _ => l.length - (intOf i).toNat)
  case atStart => exact ⟨0, Nat.zero_le _, rfl, Below.refl _ _⟩
  case round =>
    obtain ⟨k, hk, rfl, hbw⟩ := hrel
    by_cases hlt : k < l.length
    · obtain ⟨x, hx⟩ : ∃ x, l[k]? = some x := ⟨_, List.getElem?_eq_getElem hlt⟩
      obtain ⟨g, o, rfl, hgl, hc⟩ := hca k x hx
      obtain ⟨g', o', rfl, hgl', hd⟩ := hcb k x hx
      have c0 := (hbw.cell (p := ⟨g, o + k * 2 + 0, none⟩) hgl).trans (hc 0 _ rfl)
      have d0 := (hbw.cell (p := ⟨g', o' + k * 2 + 0, none⟩) hgl').trans (hd 0 _ rfl)
      have c1 := (hbw.cell (p := ⟨g, o + k * 2 + 1, none⟩) hgl).trans (hc 1 _ rfl)
      have d1 := (hbw.cell (p := ⟨g', o' + k * 2 + 1, none⟩) hgl').trans (hd 1 _ rfl)
      rw [Nat.add_zero] at c0 d0
      have i1 : (0 : Int) ≤ (k : Int) := by omega
      have i2 : (k : Int) < (l.length : Int) := by omega
      clear hca hcb hc hd
      go_wp2_with fail
      go_quiet (fail)
      go_wp2_with fail
      go_roundw
      case rel => exact ⟨k + 1, by omega, by go_num, below_drewN hbw _⟩
      case measure => simp [intOf]; omega
    · go_wp2_with fail
      go_ret
      exact ⟨rfl, hbw⟩
end Go.Proofs.YtdbbejedipfckaaGreatDoor
