/-
  gleanlaw's Books.values, at the first list that comes: it is kept, with a copy; a nil list is marked.
-/
import Derived.Test.YtfanaanofjhlkaaDoorMarkV
import Derived.Test.YtfanaanofjhlkaaDoorSame
import Derived.Test.YtfanaanofjhlkaaDoorStep2
import Derived.Laws.AppendOwnNone
namespace Go.Proofs.YtfanaanofjhlkaaDoor
open Go Go.RowKit

/-- A copy of a list, made by an append to nil. -/
theorem wpList_append_row {P : Program} {w : World} {ops : Array Oper} {rest : List Oper} {o : Oper} {a : Act} {Q : Exit → Act → World → Prop} (hgd : o.guard = none) (s x : Operand) (t : TypeId)
    (ho : o.op = .call { callee := .builtin .append, args := #[s, x], argTypes := #[t, t] })
    (e : TypeId) (i : TypeInfo) (z : Value) (size bytes : Nat) (ht : P.underlying t = some (.slice e)) (hi : P.info? e = some i) (hz : i.zero = some z)
    (hsize : i.size = size) (hby : i.bytes = bytes) (hzs : z.cells.size = size) (hsz : 0 < size) (hs : a.eval s = .slice none 0 0)
    (base : Nat) (lv : Value) (n : Nat) (xs : List Value) (hx : a.eval x = lv) (hown : w.ownsRow base e size lv n xs) (h1 : ∀ u ∈ xs, u.oneCell' = true) (h63 : n ≤ maxLen) (hbytes : n * bytes ≤ 140737488355328)
    (h : ∀ v' w', w'.ownsRow w.heap.size e size v' n xs → Kept (fun _ => False) w w' → wpList P ops Q rest (a.put o.dst v') w') : wpList P ops Q (o :: rest) a w := by
  have hown' := hown
  obtain ⟨hl, hv⟩ := hown
  rcases hv with ⟨rfl, rfl⟩ | ⟨g, cap, cur, rfl, _⟩
  · obtain rfl : xs = [] := List.eq_nil_of_length_eq_zero (by simpa using hl)
    exact wpList_append_own_none hgd s x t ho w.heap.size e i size ht hi (.slice none 0 0) 0 [] hs (World.ownsRow_nil w _ e size) hx (h _ w (World.ownsRow_nil w _ e size) (Kept.refl _ _))
  · refine wpList_append_own w hgd s x t ho w.heap.size e i z size bytes ht hi hz hsize hby hzs hsz (.slice none 0 0) 0 [] hs (World.ownsRow_nil w _ e size) ⟨g, 0, none⟩ n cap xs hx hl (fun j u hj => hown'.cells (g := g) rfl j u hj) h1 (by omega) (by rw [Nat.zero_add]; exact hbytes) (Nat.le_refl _) ?_
    intro v' w' hr hg _
    exact h v' w' (by simpa using hr) (Kept.grown hg (fun r e => by cases e))
theorem pairCells_one (l : List (ByteArray × Int)) : ∀ u ∈ pairCells l, u.oneCell' = true := by
  intro u hu
  obtain ⟨t, _, ht⟩ := List.mem_flatMap.1 hu
  simp at ht
  rcases ht with rfl | rfl <;> rfl

set_option maxHeartbeats 4000000 in
set_option maxRecDepth 100000 in
theorem values1_calls (F : Nat → Prop) (B : Nat) (lv : Value) (l : List (ByteArray × Int)) (w : World) (hI : BooksAt F (fun g _ => F g) w B 0 0 (.slice none 0 0) (.slice none 0 0) [])
    (hl : w.ownsRow 0 32 2 lv l.length (pairCells l)) (hlF : ∀ g, lv.ownBlock = some g → ¬ F g) (hn : l.length ≤ 1000000) :
    Calls Tryd.prog 10 #[.pointer (some ⟨B, 0, none⟩), lv] w fun e w' => e = .returned (.tuple #[]) ∧ ∃ wv bs, bs.length = 4 ∧ PairsAt w' wv l ∧ BooksAt (fun b => F b ∨ w.heap.size ≤ b) (fun b _ => F b ∨ w.heap.size ≤ b) w' B 1 1 lv wv bs ∧ Kept F w w' := by
  obtain ⟨i1, hi1, hy0, hy1, hy2⟩ := info_parts infoValue
  have HI : Hid (BooksAt F (fun g _ => F g) w B 0 0 (.slice none 0 0) (.slice none 0 0) []) := hI
  have HL : Hid (w.ownsRow 0 32 2 lv l.length (pairCells l)) := hl
  have HLF : Hid (∀ g, lv.ownBlock = some g → ¬ F g) := hlF
  have hBl : B < w.heap.size := by obtain ⟨_, hb, _⟩ := hI; exact hb.lt
  obtain ⟨al, cl, rfl⟩ := row_form hl
  clear hI hl hlF
  go_enter Tryd.func10, Tryd.ntmps10
  go_upto_region 2 with (at_builtin; refine wpList_append_row rfl _ _ _ rfl 32 i1 _ 2 24 Tryd.underlying25 hi1 hy0 hy1 hy2 rfl (by omega) rfl 0 (.slice al l.length cl) l.length (pairCells l) rfl HL.out (pairCells_one _) (by unfold maxLen; omega) (by omega) ?_; intro wv w1 hrow1 hk1)
  obtain ⟨aw, cw, rfl⟩ := row_form hrow1
  have HI1 : Hid (BooksAt (fun g => F g ∧ g < w.heap.size) (fun g _ => F g ∧ g < w.heap.size) w1 B 0 0 (.slice none 0 0) (.slice none 0 0) []) := HI.out.kept hk1 (fun _ _ h => h) (fun _ _ _ _ _ h => h) (fun _ h1 h => ⟨h, h1⟩) (fun _ _ h1 h => ⟨h, h1⟩)
  have HROW1 : Hid (w1.ownsRow w.heap.size 32 2 (.slice aw l.length cw) l.length (pairCells l)) := hrow1
  have HK1 : Hid (Kept (fun _ => False) w w1) := hk1
  have hsz1 := hk1.size
  obtain ⟨vA1, hb1, -⟩ := HI1.out
  have b3 := hb1.cell (o := 3) rfl
  have b4 := hb1.cell (o := 4) rfl
  have HS : Hid (∀ W, Below w1.heap.size w1 W → Calls Tryd.prog 7 #[.slice none 0 0, .slice none 0 0] W fun e w' => ∃ v, e = .returned v ∧ v = .bool true ∧ Below w1.heap.size w1 w') := fun W hW =>
    (sameV_calls _ _ [] W (pairs_nil W) (pairs_nil W) (by simp)).mono fun e w' h => ⟨_, h.1, rfl, hW.trans (h.2.mono hW.size)⟩
  clear hrow1 hk1 hb1
  go_cut [5] (fun s wx => s = .bool true ∧ Below w1.heap.size w1 wx)
  case first =>
    go_region_law (refine step_call2 (by rfl) 7 _ _ _ (by rfl) (.slice none 0 0) (.slice none 0 0) (by rfl) (by rfl) (enters_of Tryd.func7 (by kernel_rfl) rfl) (HS.out _ (by first | exact Below.refl _ _ | exact (Below.refl _ _).drew)) ?_; rintro v9 w9 ⟨rfl, hb9⟩)
    all_goals
      go_wp2_with fail
      go_meet
      case rel => exact ⟨rfl, by assumption⟩
  case rest =>
    obtain ⟨rfl, hb2⟩ := hcut
    rename World => w2
    have hsz2 := hb2.size
    have k2 : Kept (fun b => w1.heap.size ≤ b) w1 w2 := Kept.of_below hb2 (fun _ _ h => h)
    have HI2 : Hid (BooksAt (fun g => (F g ∧ g < w.heap.size) ∨ w2.heap.size ≤ g) (fun g _ => (F g ∧ g < w.heap.size) ∨ w2.heap.size ≤ g) w2 B (0 : Nat) 0 (.slice none 0 0) (.slice none 0 0) []) := HI1.out.kept k2 (fun _ h1 h => by omega) (fun _ _ _ _ h1 h => by omega) (fun _ _ h => .inl h) (fun _ _ _ h => .inl h)
    have HROW2 : Hid (w2.ownsRow w.heap.size 32 2 (.slice aw l.length cw) l.length (pairCells l)) := row_kept HROW1.out k2 (fun g e h => by have := (HROW1.out.lt g e).2; omega) (Nat.le_refl _)
    have HL2 : Hid (w2.ownsRow 0 32 2 (.slice al l.length cl) l.length (pairCells l)) := row_kept (row_kept HL.out HK1.out (fun _ _ h => h) (Nat.le_refl _)) k2 (fun g e h => by have := (HL.out.lt g e).2; omega) (Nat.le_refl _)
    have HK2 : Hid (Kept (fun b => w1.heap.size ≤ b) w1 w2) := k2
    obtain ⟨vA2, hbx2, -⟩ := HI2.out
    clear b3 b4
    have b3 := hbx2.cell (o := 3) rfl
    clear hbx2 k2
    go_upto_region 4 with (go_at_call 26; refine (markV_calls (fun g => (F g ∧ g < w.heap.size) ∨ w2.heap.size ≤ g) B 0 0 (.slice none 0 0) (.slice none 0 0) (.slice none 0 0) [] 0 [] w2 (fun b h => .inr h) HI2.out (World.ownsRow_nil _ _ _ _) (fun g e => by cases e) (by omega) (by simp) (by omega)).mono ?_; rintro e w3 ⟨rfl, bs3, hlen3, hI3, hk3⟩)
    have HK3 : Hid (Kept (fun g => (F g ∧ g < w.heap.size) ∨ w2.heap.size ≤ g) w2 w3) := hk3.mono (fun _ _ h => h.elim id (fun e => by cases e))
    have HI3 : Hid (BooksAt (fun g => (F g ∧ g < w.heap.size) ∨ w2.heap.size ≤ g) (fun g _ => (F g ∧ g < w.heap.size) ∨ w2.heap.size ≤ g) w3 B 1 0 (.slice none 0 0) (.slice none 0 0) bs3) := hI3.kept (Kept.refl (fun _ => False) _) (fun _ _ h => h) (fun _ _ _ _ _ h => h) (fun _ _ h => h.elim id (fun e => by cases e)) (fun _ _ _ h => h.elim id (fun e => by cases e))
    have hsz3 := hk3.size
    have HLEN3 : Hid (bs3.length = 4) := hlen3
    have HROW3 : Hid (w3.ownsRow w.heap.size 32 2 (.slice aw l.length cw) l.length (pairCells l)) := row_kept HROW2.out HK3.out (fun g e h => by have h1 := HROW1.out.lt g e; rcases h with ⟨_, h⟩ | h <;> omega) (Nat.le_refl _)
    have HL3 : Hid (w3.ownsRow 0 32 2 (.slice al l.length cl) l.length (pairCells l)) := row_kept HL2.out HK3.out (fun g e h => by have h1 := HL.out.lt g e; rcases h with ⟨h, _⟩ | h; exact HLF.out g e h; omega) (Nat.le_refl _)
    clear hI3 hk3 hlen3 b3
    obtain ⟨vA3, hb3, hr3, hFB3, hFA3, hm3⟩ := HI3.out
    have HB3 : Hid (BoxAt w3 B 39 #[.int .i64 1, .int .i64 0, .bool false, .slice none 0 0, .slice none 0 0, .slice none 0 0, .slice none 0 0, .slice none 0 0, .slice none 0 0, vA3]) := hb3
    have HR3 : Hid (w3.ownsRow 0 71 4 vA3 bs3.length (bookCells bs3)) := hr3
    have HFA3 : Hid (∀ g, vA3.ownBlock = some g → (F g ∧ g < w.heap.size) ∨ w2.heap.size ≤ g) := hFA3
    have HM3 : Hid (∀ x ∈ bs3, MarkAt w3 (fun g _ => (F g ∧ g < w.heap.size) ∨ w2.heap.size ≤ g) x.2 x.1) := hm3
    have HFB3 : Hid ((F B ∧ B < w.heap.size) ∨ w2.heap.size ≤ B) := hFB3
    clear hb3 hr3 hFB3 hFA3 hm3
    go_upto_region 5 with (go_at_call 7; refine (sameV_calls _ _ l w3 (pairs_of_row HL3.out).2 (pairs_of_row HROW3.out).2 (by omega)).mono ?_; rintro e w4 ⟨rfl, hb4⟩)
    have hsz4 := hb4.size
    have k4 : Kept (fun b => w3.heap.size ≤ b) w3 w4 := Kept.of_below hb4 (fun _ _ h => h)
    have HB4 : Hid (BoxAt w4 B 39 #[.int .i64 1, .int .i64 0, .bool false, .slice none 0 0, .slice none 0 0, .slice none 0 0, .slice none 0 0, .slice none 0 0, .slice none 0 0, vA3]) := HB3.out.kept k4 (by omega)
    have bx4 := HB4.out
    have c1 := bx4.cell (o := 1) rfl
    have c2 := bx4.cell (o := 2) rfl
    have c3 := bx4.cell (o := 3) rfl
    have c4 := bx4.cell (o := 4) rfl
    have f1 := bx4.frozen 1
    have f2 := bx4.frozen 2
    have f3 := bx4.frozen 3
    have f4 := bx4.frozen 4
    have HK4 : Hid (Kept (fun b => w3.heap.size ≤ b) w3 w4) := k4
    clear bx4 k4 hb4
    go_wp2_with fail
    go_end0
    obtain ⟨W5, hW5⟩ : ∃ W5, (((((w4.setCell ⟨B, 2, none⟩ (.bool false)).setCell ⟨B, 3, none⟩ (.slice none 0 0)).setCell ⟨B, 4, none⟩ (.slice none 0 0)).setCell ⟨B, 1, none⟩ (.int .i64 1)).setCell ⟨B, 3, none⟩ (.slice al l.length cl)).setCell ⟨B, 4, none⟩ (.slice aw l.length cw) = W5 := ⟨_, rfl⟩
    have k5 : Kept (· = B) w4 W5 := by rw [← hW5]; exact ((((((Kept.refl _ _).setCell (.inl (by rfl)) _).setCell (.inl (by rfl)) _).setCell (.inl (by rfl)) _).setCell (.inl (by rfl)) _).setCell (.inl (by rfl)) _).setCell (.inl (by rfl)) _
    have bx5 : BoxAt W5 B 39 #[.int .i64 1, .int .i64 1, .bool false, .slice al l.length cl, .slice aw l.length cw, .slice none 0 0, .slice none 0 0, .slice none 0 0, .slice none 0 0, vA3] := by rw [← hW5]; exact (((((HB4.out.setAt 2 _).setAt 3 _).setAt 4 _).setAt 1 _).setAt 3 _).setAt 4 _
    rw [hW5]
    clear hW5
    have k35 : Kept (fun b => b = B ∨ w3.heap.size ≤ b) w3 W5 := (HK4.out.mono (fun _ _ h => .inr h)).trans (k5.mono (fun _ _ h => .inl h))
    have hFB : F B := by
      rcases HFB3.out with h | h
      · exact h.1
      · omega
    refine ⟨rfl, .slice aw l.length cw, bs3, HLEN3.out, ?_, ⟨vA3, bx5, ?_, .inl hFB, fun g e => ?_, fun x hx => ?_⟩, ?_⟩
    · refine (pairs_of_row (row_kept HROW3.out k35 (fun g e h => ?_) (Nat.le_refl _))).2
      rcases h with rfl | h
      · exact row_ne HROW3.out HB3.out (by decide) e
      · have := (HROW3.out.lt g e).2
        omega
    · refine row_kept HR3.out k35 (fun g e h => ?_) (Nat.le_refl _)
      rcases h with rfl | h
      · exact row_ne HR3.out HB3.out (by decide) e
      · have := (HR3.out.lt g e).2
        omega
    · rcases HFA3.out g e with h | h
      · exact .inl h.1
      · exact .inr (by omega)
    · refine (HM3.out x hx).kept k35 (fun g n cs hb _ h => ?_) (fun g n cs hb h => ?_)
      · rcases h with rfl | h
        · have := hb.symm.trans HB3.out
          simp at this
        · have := hb.lt
          omega
      · rcases h with h | h
        · exact .inl h.1
        · exact .inr (by omega)
    · have k12 : Kept F w w2 := (HK1.out.mono (fun _ _ h => h.elim)).later (HK2.out.below (Nat.le_refl _) (fun _ h => h)) hsz1
      have k23 : Kept F w w3 := by
        refine ⟨HK3.out.os.trans k12.os, HK3.out.tape.trans k12.tape, HK3.out.output.trans k12.output, Nat.le_trans k12.size HK3.out.size, fun b hb hx => (HK3.out.block b (by omega) (fun h => ?_)).trans (k12.block b hb hx)⟩
        rcases h with h | h
        · exact hx h.1
        · omega
      refine ⟨k35.os.trans k23.os, k35.tape.trans k23.tape, k35.output.trans k23.output, Nat.le_trans k23.size k35.size, fun b hb hx => (k35.block b (by omega) (fun h => ?_)).trans (k23.block b hb hx)⟩
      rcases h with rfl | h
      · exact hx hFB
      · omega
end Go.Proofs.YtfanaanofjhlkaaDoor
