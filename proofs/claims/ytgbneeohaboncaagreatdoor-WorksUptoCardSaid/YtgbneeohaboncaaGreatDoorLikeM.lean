/-
  The state of gleanlaw's books between two calls: which blocks are theirs; each list that was kept, and what it was, lie apart from all others.
-/
import Derived.Test.YtgbneeohaboncaaGreatDoorRefNew
namespace Go.Proofs.YtgbneeohaboncaaGreatDoor
open Go Go.RowKit

/-- A list that was kept, in blocks of the label i, and what it was, in blocks of the label j. -/
def KeptL {α : Type} (t : TypeId) (sz : Nat) (enc : α → List Value) (lab : Nat → Nat) (i j : Nat) (W : World) (k w : Value) (l : List α) : Prop :=
  W.ownsRow 0 t sz k l.length (l.flatMap enc) ∧ (∀ g, k.ownBlock = some g → lab g = i) ∧ W.ownsRow 0 t sz w l.length (l.flatMap enc) ∧ (∀ g, w.ownBlock = some g → lab g = j) ∧ l.length ≤ 1000000
theorem KeptL.kept {α : Type} {t : TypeId} {sz : Nat} {enc : α → List Value} {lab lab' : Nat → Nat} {i j : Nat} {W W' : World} {k w : Value} {l : List α} {X : Nat → Prop} (h : KeptL t sz enc lab i j W k w l) (hk : Kept X W W') (hx : ∀ g, g < W.heap.size → lab g = i ∨ lab g = j → ¬ X g ∧ lab' g = lab g) : KeptL t sz enc lab' i j W' k w l := by
  obtain ⟨h1, h2, h3, h4, h5⟩ := h
  exact ⟨row_kept h1 hk (fun g e => (hx g (h1.lt g e).2 (.inl (h2 g e))).1) (Nat.le_refl _), fun g e => ((hx g (h1.lt g e).2 (.inl (h2 g e))).2).trans (h2 g e),
    row_kept h3 hk (fun g e => (hx g (h3.lt g e).2 (.inr (h4 g e))).1) (Nat.le_refl _), fun g e => ((hx g (h3.lt g e).2 (.inr (h4 g e))).2).trans (h4 g e), h5⟩
theorem KeptL.nil {α : Type} (t : TypeId) (sz : Nat) (enc : α → List Value) (lab : Nat → Nat) (i j : Nat) (W : World) : KeptL t sz enc lab i j W (.slice none 0 0) (.slice none 0 0) [] :=
  ⟨World.ownsRow_nil _ _ _ _, (fun g e => by cases e), World.ownsRow_nil _ _ _ _, (fun g e => by cases e), by simp⟩

/-- The books at block B, after so many marks and lists, in blocks that F names. -/
def BooksOK (F : Nat → Prop) (W : World) (B N came : Nat) : Prop :=
  ∃ (lab : Nat → Nat) (kV wV kT wT kM wM : Value) (lV : List (ByteArray × Int)) (lT : List TaskS) (lM : List MsgS) (bs : List Bk),
    (∀ b, lab b ≠ 0 → F b) ∧ bs.length = 4 * N ∧ BooksX (fun b => lab b = 1) (fun b _ => lab b = 1) W B N came kV wV kT wT kM wM bs ∧
    KeptL 84 2 valEnc lab 2 3 W kV wV lV ∧ KeptL 76 3 taskEnc lab 4 5 W kT wT lT ∧ KeptL 139 15 msgEnc lab 6 7 W kM wM lM
theorem BooksOK.kept {F F' X : Nat → Prop} {W W' : World} {B N came : Nat} (h : BooksOK F W B N came) (hk : Kept X W W') (hx : ∀ g, g < W.heap.size → F g → ¬ X g ∧ F' g) : BooksOK F' W' B N came := by
  obtain ⟨lab, kV, wV, kT, wT, kM, wM, lV, lT, lM, bs, h1, h2, h3, h4, h5, h6⟩ := h
  have hg : ∀ g, g < W.heap.size → lab g ≠ 0 → ¬ X g := fun g hl hn => (hx g hl (h1 g hn)).1
  refine ⟨fun b => if b < W.heap.size then lab b else 0, kV, wV, kT, wT, kM, wM, lV, lT, lM, bs, fun b hb => ?_, h2, h3.kept hk (fun g hl hn => hg g hl (by omega)) (fun g _ hl hn => hg g hl (by omega)) (fun g hl hn => by simp [hl, hn]) (fun g _ hl hn => by simp [hl, hn]),
    h4.kept hk (fun g hl hn => ⟨hg g hl (by omega), by simp [hl]⟩), h5.kept hk (fun g hl hn => ⟨hg g hl (by omega), by simp [hl]⟩), h6.kept hk (fun g hl hn => ⟨hg g hl (by omega), by simp [hl]⟩)⟩
  by_cases hl : b < W.heap.size
  · exact (hx b hl (h1 b (by simpa [hl] using hb))).2
  · simp [hl] at hb
theorem BooksOK.lt {F : Nat → Prop} {W : World} {B N came : Nat} (h : BooksOK F W B N came) : B < W.heap.size ∧ F B := by
  obtain ⟨lab, kV, wV, kT, wT, kM, wM, lV, lT, lM, bs, h1, h2, ⟨vA, h3, _, h4, _⟩, _⟩ := h
  exact ⟨h3.lt, h1 B (by omega)⟩
theorem BooksOK.later {F : Nat → Prop} {W W' : World} {B N came : Nat} (h : BooksOK F W B N came) (hk : Below W.heap.size W W') : BooksOK F W' B N came :=
  h.kept (Kept.of_below hk (X := fun b => W.heap.size ≤ b) (fun _ _ h => h)) (fun g hl hF => ⟨by omega, hF⟩)
theorem BooksOK.mono {F F' : Nat → Prop} {W : World} {B N came : Nat} (h : BooksOK F W B N came) (hx : ∀ g, g < W.heap.size → F g → F' g) : BooksOK F' W B N came :=
  h.kept (Kept.refl (fun _ => False) W) (fun g hl hF => ⟨fun h => h, hx g hl hF⟩)
/-- New books. -/
theorem BooksOK.new (W : World) : BooksOK (fun b => b = W.heap.size) (W.alloc (Obj.cells #[.int .i64 0, .int .i64 0, .bool false, .slice none 0 0, .slice none 0 0, .slice none 0 0, .slice none 0 0, .slice none 0 0, .slice none 0 0, .slice none 0 0] 56)) W.heap.size 0 0 :=
  ⟨fun b => if b = W.heap.size then 1 else 0, .slice none 0 0, .slice none 0 0, .slice none 0 0, .slice none 0 0, .slice none 0 0, .slice none 0 0, [], [], [], [], fun b hb => by simpa using hb, rfl,
    ⟨.slice none 0 0, BoxAt.new W _ _, World.ownsRow_nil _ _ _ _, by simp, (fun g e => by cases e), (fun x hx => by cases hx)⟩, KeptL.nil _ _ _ _ _ _ _, KeptL.nil _ _ _ _ _ _ _, KeptL.nil _ _ _ _ _ _ _⟩
end Go.Proofs.YtgbneeohaboncaaGreatDoor
/-
  gleanlaw.sameT calls two lists that hold the same the same.
-/
namespace Go.Proofs.YtgbneeohaboncaaGreatDoor
open Go Go.RowKit

theorem heldT : Tryz.prog.stoodInHeld 76 = false := by kernel_rfl
theorem guardT : Tryz.prog.eqGuardType Tryz.prog.depth 76 = false := by kernel_rfl

set_option maxHeartbeats 4000000 in
set_option maxRecDepth 100000 in
theorem likeT_calls (va vb : Value) (l : List TaskS) (w : World) (ha : ListAt 3 taskEnc w va l) (hb : ListAt 3 taskEnc w vb l) (hl : l.length ≤ 9223372036854775806) :
    Calls Tryz.prog 37 #[va, vb] w fun e w' => e = .returned (.bool true) ∧ Below w.heap.size w w' := by
  obtain ⟨a, cap, rfl, hca⟩ := ha
  obtain ⟨b, cap', rfl, hcb⟩ := hb
  have hs := heldT
  have hg := guardT
  go_enter Tryz.func37, Tryz.ntmps37
  go_wp2_with fail
  go_loopw [5] (fun i wr => ∃ k : Nat, k ≤ l.length ∧ i = .int .i64 k ∧ Below w.heap.size w wr) (fun i _ => l.length - (intOf i).toNat)
  case atStart => exact ⟨0, Nat.zero_le _, rfl, Below.refl _ _⟩
  case round =>
    obtain ⟨k, hk, rfl, hbw⟩ := hrel
    by_cases hlt : k < l.length
    · obtain ⟨x, hx⟩ : ∃ x, l[k]? = some x := ⟨_, List.getElem?_eq_getElem hlt⟩
      obtain ⟨g, o, rfl, hgl, hc⟩ := hca k x hx
      obtain ⟨g', o', rfl, hgl', hd⟩ := hcb k x hx
      have c0 := (hbw.cell (p := ⟨g, o + k * 3 + 0, none⟩) hgl).trans (hc 0 _ rfl)
      have d0 := (hbw.cell (p := ⟨g', o' + k * 3 + 0, none⟩) hgl').trans (hd 0 _ rfl)
      have c1 := (hbw.cell (p := ⟨g, o + k * 3 + 1, none⟩) hgl).trans (hc 1 _ rfl)
      have d1 := (hbw.cell (p := ⟨g', o' + k * 3 + 1, none⟩) hgl').trans (hd 1 _ rfl)
      have c2 := (hbw.cell (p := ⟨g, o + k * 3 + 2, none⟩) hgl).trans (hc 2 _ rfl)
      have d2 := (hbw.cell (p := ⟨g', o' + k * 3 + 2, none⟩) hgl').trans (hd 2 _ rfl)
      rw [Nat.add_zero] at c0 d0
      have i1 : (0 : Int) ≤ (k : Int) := by omega
      have i2 : (k : Int) < (l.length : Int) := by omega
      clear hca hcb hc hd
      go_wp2_with fail
      go_quiet (fail)
      go_wp2_with fail
      go_roundw
      case rel => exact ⟨k + 1, by omega, by go_num, below_drewN hbw _⟩
      case measure => simp [intOf]; omega
    · go_wp2_with fail
      go_ret
      exact ⟨rfl, hbw⟩
end Go.Proofs.YtgbneeohaboncaaGreatDoor
/-
  gleanlaw.sameV calls two lists that hold the same the same.
-/
namespace Go.Proofs.YtgbneeohaboncaaGreatDoor
open Go Go.RowKit

theorem heldV : Tryz.prog.stoodInHeld 84 = false := by kernel_rfl
theorem guardV : Tryz.prog.eqGuardType Tryz.prog.depth 84 = false := by kernel_rfl

set_option maxHeartbeats 4000000 in
set_option maxRecDepth 100000 in
theorem likeV_calls (va vb : Value) (l : List (ByteArray × Int)) (w : World) (ha : ListAt 2 valEnc w va l) (hb : ListAt 2 valEnc w vb l) (hl : l.length ≤ 9223372036854775806) :
    Calls Tryz.prog 44 #[va, vb] w fun e w' => e = .returned (.bool true) ∧ Below w.heap.size w w' := by
  obtain ⟨a, cap, rfl, hca⟩ := ha
  obtain ⟨b, cap', rfl, hcb⟩ := hb
  have hs := heldV
  have hg := guardV
  go_enter Tryz.func44, Tryz.ntmps44
  go_wp2_with fail
  go_loopw [5] (fun i wr => ∃ k : Nat, k ≤ l.length ∧ i = .int .i64 k ∧ Below w.heap.size w wr) (fun i _ => l.length - (intOf i).toNat)
  case atStart => exact ⟨0, Nat.zero_le _, rfl, Below.refl _ _⟩
  case round =>
    obtain ⟨k, hk, rfl, hbw⟩ := hrel
    by_cases hlt : k < l.length
    · obtain ⟨x, hx⟩ : ∃ x, l[k]? = some x := ⟨_, List.getElem?_eq_getElem hlt⟩
      obtain ⟨g, o, rfl, hgl, hc⟩ := hca k x hx
      obtain ⟨g', o', rfl, hgl', hd⟩ := hcb k x hx
      have c0 := (hbw.cell (p := ⟨g, o + k * 2 + 0, none⟩) hgl).trans (hc 0 _ rfl)
      have d0 := (hbw.cell (p := ⟨g', o' + k * 2 + 0, none⟩) hgl').trans (hd 0 _ rfl)
      have c1 := (hbw.cell (p := ⟨g, o + k * 2 + 1, none⟩) hgl).trans (hc 1 _ rfl)
      have d1 := (hbw.cell (p := ⟨g', o' + k * 2 + 1, none⟩) hgl').trans (hd 1 _ rfl)
      rw [Nat.add_zero] at c0 d0
      have i1 : (0 : Int) ≤ (k : Int) := by omega
      have i2 : (k : Int) < (l.length : Int) := by omega
      clear hca hcb hc hd
      go_wp2_with fail
      go_quiet (fail)
      go_wp2_with fail
      go_roundw
      case rel => exact ⟨k + 1, by omega, by go_num, below_drewN hbw _⟩
      case measure => simp [intOf]; omega
    · go_wp2_with fail
      go_ret
      exact ⟨rfl, hbw⟩
end Go.Proofs.YtgbneeohaboncaaGreatDoor
/-
  gleanlaw.sameM calls two lists that hold the same the same.
-/
namespace Go.Proofs.YtgbneeohaboncaaGreatDoor
open Go Go.RowKit

theorem heldM : Tryz.prog.stoodInHeld 139 = false := by kernel_rfl
theorem guardM : Tryz.prog.eqGuardType Tryz.prog.depth 139 = false := by kernel_rfl

set_option maxHeartbeats 4000000 in
set_option maxRecDepth 100000 in
theorem likeM_calls (va vb : Value) (l : List MsgS) (w : World) (ha : ListAt 15 msgEnc w va l) (hb : ListAt 15 msgEnc w vb l) (hl : l.length ≤ 9223372036854775806) :
    Calls Tryz.prog 41 #[va, vb] w fun e w' => e = .returned (.bool true) ∧ Below w.heap.size w w' := by
  obtain ⟨a, cap, rfl, hca⟩ := ha
  obtain ⟨b, cap', rfl, hcb⟩ := hb
  have hs := heldM
  have hg := guardM
  go_enter Tryz.func41, Tryz.ntmps41
  go_wp2_with fail
  go_loopw [5] (fun i wr => ∃ k : Nat, k ≤ l.length ∧ i = .int .i64 k ∧ Below w.heap.size w wr) (fun i _ => l.length - (intOf i).toNat)
  case atStart => exact ⟨0, Nat.zero_le _, rfl, Below.refl _ _⟩
  case round =>
    obtain ⟨k, hk, rfl, hbw⟩ := hrel
    by_cases hlt : k < l.length
    · obtain ⟨x, hx⟩ : ∃ x, l[k]? = some x := ⟨_, List.getElem?_eq_getElem hlt⟩
      obtain ⟨g, o, rfl, hgl, hc⟩ := hca k x hx
      obtain ⟨g', o', rfl, hgl', hd⟩ := hcb k x hx
      have c0 := (hbw.cell (p := ⟨g, o + k * 15 + 0, none⟩) hgl).trans (hc 0 _ rfl)
      have d0 := (hbw.cell (p := ⟨g', o' + k * 15 + 0, none⟩) hgl').trans (hd 0 _ rfl)
      have c1 := (hbw.cell (p := ⟨g, o + k * 15 + 1, none⟩) hgl).trans (hc 1 _ rfl)
      have d1 := (hbw.cell (p := ⟨g', o' + k * 15 + 1, none⟩) hgl').trans (hd 1 _ rfl)
      have c2 := (hbw.cell (p := ⟨g, o + k * 15 + 2, none⟩) hgl).trans (hc 2 _ rfl)
      have d2 := (hbw.cell (p := ⟨g', o' + k * 15 + 2, none⟩) hgl').trans (hd 2 _ rfl)
      have c3 := (hbw.cell (p := ⟨g, o + k * 15 + 3, none⟩) hgl).trans (hc 3 _ rfl)
      have d3 := (hbw.cell (p := ⟨g', o' + k * 15 + 3, none⟩) hgl').trans (hd 3 _ rfl)
      have c4 := (hbw.cell (p := ⟨g, o + k * 15 + 4, none⟩) hgl).trans (hc 4 _ rfl)
      have d4 := (hbw.cell (p := ⟨g', o' + k * 15 + 4, none⟩) hgl').trans (hd 4 _ rfl)
      have c5 := (hbw.cell (p := ⟨g, o + k * 15 + 5, none⟩) hgl).trans (hc 5 _ rfl)
      have d5 := (hbw.cell (p := ⟨g', o' + k * 15 + 5, none⟩) hgl').trans (hd 5 _ rfl)
      have c6 := (hbw.cell (p := ⟨g, o + k * 15 + 6, none⟩) hgl).trans (hc 6 _ rfl)
      have d6 := (hbw.cell (p := ⟨g', o' + k * 15 + 6, none⟩) hgl').trans (hd 6 _ rfl)
      have c7 := (hbw.cell (p := ⟨g, o + k * 15 + 7, none⟩) hgl).trans (hc 7 _ rfl)
      have d7 := (hbw.cell (p := ⟨g', o' + k * 15 + 7, none⟩) hgl').trans (hd 7 _ rfl)
      have c8 := (hbw.cell (p := ⟨g, o + k * 15 + 8, none⟩) hgl).trans (hc 8 _ rfl)
      have d8 := (hbw.cell (p := ⟨g', o' + k * 15 + 8, none⟩) hgl').trans (hd 8 _ rfl)
      have c9 := (hbw.cell (p := ⟨g, o + k * 15 + 9, none⟩) hgl).trans (hc 9 _ rfl)
      have d9 := (hbw.cell (p := ⟨g', o' + k * 15 + 9, none⟩) hgl').trans (hd 9 _ rfl)
      have c10 := (hbw.cell (p := ⟨g, o + k * 15 + 10, none⟩) hgl).trans (hc 10 _ rfl)
      have d10 := (hbw.cell (p := ⟨g', o' + k * 15 + 10, none⟩) hgl').trans (hd 10 _ rfl)
      have c11 := (hbw.cell (p := ⟨g, o + k * 15 + 11, none⟩) hgl).trans (hc 11 _ rfl)
      have d11 := (hbw.cell (p := ⟨g', o' + k * 15 + 11, none⟩) hgl').trans (hd 11 _ rfl)
      have c12 := (hbw.cell (p := ⟨g, o + k * 15 + 12, none⟩) hgl).trans (hc 12 _ rfl)
      have d12 := (hbw.cell (p := ⟨g', o' + k * 15 + 12, none⟩) hgl').trans (hd 12 _ rfl)
      have c13 := (hbw.cell (p := ⟨g, o + k * 15 + 13, none⟩) hgl).trans (hc 13 _ rfl)
      have d13 := (hbw.cell (p := ⟨g', o' + k * 15 + 13, none⟩) hgl').trans (hd 13 _ rfl)
      have c14 := (hbw.cell (p := ⟨g, o + k * 15 + 14, none⟩) hgl).trans (hc 14 _ rfl)
      have d14 := (hbw.cell (p := ⟨g', o' + k * 15 + 14, none⟩) hgl').trans (hd 14 _ rfl)
      rw [Nat.add_zero] at c0 d0
      have i1 : (0 : Int) ≤ (k : Int) := by omega
      have i2 : (k : Int) < (l.length : Int) := by omega
      clear hca hcb hc hd
      go_wp2_with fail
      go_quiet (fail)
      go_wp2_with fail
      go_roundw
      case rel => exact ⟨k + 1, by omega, by go_num, below_drewN hbw _⟩
      case measure => simp [intOf]; omega
    · go_wp2_with fail
      go_ret
      exact ⟨rfl, hbw⟩
end Go.Proofs.YtgbneeohaboncaaGreatDoor
