/-
  Lists of any of the three sorts (values, tasks, messages) that are full of a mark, and what gleanlaw's books know: definitions and small facts on them.
-/
import Derived.Test.YtgbneeohaboncaaGreatDoorValues2
namespace Go.Proofs.YtgbneeohaboncaaGreatDoor
open Go Go.RowKit

/-- A sort of lists: the elements' type, how many cells one has, the cells of the mark N. -/
structure MarkSort where
  t : TypeId
  sz : Nat
  el : Int → List Value
def sortV : MarkSort := ⟨84, 2, fun N => [.string ⟨#[]⟩, .int .i64 (-100000 - N)]⟩
def sortT : MarkSort := ⟨76, 3, fun N => [.string ⟨#[]⟩, .int .i64 0, .int .i64 (-N)]⟩
def sortM : MarkSort := ⟨139, 15, fun N => [.int .i64 0, .int .i64 0, .int .i64 (-N), .int .i64 0, .string ⟨#[]⟩, .int .i64 0, .int .i64 0, .string ⟨#[]⟩, .int .i64 0, .bool false, .bool false, .int .i64 0, .int .i64 0, .int .i64 0, .int .i64 0]⟩

/-- A list of the sort S is full of the mark N, in blocks that G names. -/
def Marked (S : MarkSort) (W : World) (G : Nat → Nat → Prop) (v : Value) (N : Int) : Prop :=
  ∃ a n cap, v = .slice a n cap ∧ (n ≤ 4611686018427387904 ∧ 0 ≤ N ∧ N ≤ 1000000000000000) ∧ ∀ j, j < n → ∃ g cs, a = some ⟨g, 0, none⟩ ∧ G g n ∧ BoxAt W g S.t cs ∧ ∀ i u, (S.el N)[i]? = some u → cs[j * S.sz + i]? = some u
theorem Marked.kept {S : MarkSort} {X : Nat → Prop} {W W' : World} {G G' : Nat → Nat → Prop} {v : Value} {N : Int} (h : Marked S W G v N) (k : Kept X W W') (hx : ∀ g n cs, BoxAt W g S.t cs → G g n → ¬ X g) (hg : ∀ g n cs, BoxAt W g S.t cs → G g n → G' g n) : Marked S W' G' v N := by
  obtain ⟨a, n, cap, rfl, hn, h⟩ := h
  refine ⟨a, n, cap, rfl, hn, fun j hj => ?_⟩
  obtain ⟨g, cs, h1, h2, h3, h4⟩ := h j hj
  exact ⟨g, cs, h1, hg g n cs h3 h2, h3.kept k (hx g n cs h3 h2), h4⟩
theorem Marked.mono {S : MarkSort} {W : World} {G G' : Nat → Nat → Prop} {v : Value} {N : Int} (h : Marked S W G v N) (hg : ∀ g n cs, BoxAt W g S.t cs → G g n → G' g n) : Marked S W G' v N :=
  h.kept (Kept.refl (fun _ => False) _) (fun _ _ _ _ _ h => h) hg
theorem Marked.nil (S : MarkSort) (W : World) (G : Nat → Nat → Prop) (N : Int) (h0 : 0 ≤ N) (h1 : N ≤ 1000000000000000) : Marked S W G (.slice none 0 0) N := ⟨none, 0, 0, rfl, ⟨by omega, h0, h1⟩, fun j hj => absurd hj (by omega)⟩
theorem Marked.grown {S : MarkSort} {W W' : World} {row : Option Nat} {n0 : Nat} {G G' : Nat → Nat → Prop} {v : Value} {N : Int} (h : Marked S W G v N) (hgr : W.grownBy W' row) (hmk : (S.el N).length = S.sz)
    (hk : ∀ B cs, row = some B → BoxAt W B S.t cs → ∃ cs', BoxAt W' B S.t cs' ∧ ∀ j, j < n0 * S.sz → cs'[j]? = cs[j]?) (hg : ∀ g n cs, BoxAt W g S.t cs → G g n → (row = some g → n ≤ n0) ∧ G' g n) : Marked S W' G' v N := by
  obtain ⟨a, n, cap, rfl, hn, h⟩ := h
  refine ⟨a, n, cap, rfl, hn, fun j hj => ?_⟩
  obtain ⟨g, cs, h1, h2, h3, h4⟩ := h j hj
  obtain ⟨h6, h7⟩ := hg g n cs h3 h2
  by_cases hr : row = some g
  · obtain ⟨cs', k1, k2⟩ := hk g cs hr h3
    have := h6 hr
    refine ⟨g, cs', h1, h7, k1, fun i u hi => (k2 _ ?_).trans (h4 i u hi)⟩
    have hi' : i < S.sz := by rw [← hmk]; exact (List.getElem?_eq_some_iff.1 hi).1
    have h8 : (j + 1) * S.sz ≤ n0 * S.sz := Nat.mul_le_mul_right _ (by omega)
    rw [Nat.succ_mul] at h8
    omega
  · exact ⟨g, cs, h1, h7, (hgr.block g h3.lt (fun e => hr e.symm)).trans h3, h4⟩

/-- The cells of n marks. -/
def markRow (S : MarkSort) (N : Int) (n : Nat) : List Value := (List.replicate n (S.el N)).flatten
theorem markRow_length (S : MarkSort) (N : Int) (n : Nat) (hmk : (S.el N).length = S.sz) : (markRow S N n).length = n * S.sz := by
  simp [markRow, hmk]
theorem markRow_snoc (S : MarkSort) (N : Int) (n : Nat) : markRow S N (n + 1) = markRow S N n ++ S.el N := by
  unfold markRow
  rw [List.replicate_succ']
  simp
theorem markRow_get (S : MarkSort) (N : Int) (hmk : (S.el N).length = S.sz) : ∀ (n j i : Nat) (u : Value), j < n → (S.el N)[i]? = some u → (markRow S N n)[j * S.sz + i]? = some u
  | 0, j, i, u, h, _ => absurd h (by omega)
  | n + 1, j, i, u, h, hi => by
    have hi' : i < S.sz := by rw [← hmk]; exact (List.getElem?_eq_some_iff.1 hi).1
    rw [markRow_snoc]
    rcases Nat.lt_or_ge j n with hj | hj
    · have := markRow_get S N hmk n j i u hj hi
      rw [List.getElem?_append_left (List.getElem?_eq_some_iff.1 this).1]
      exact this
    · obtain rfl : j = n := by omega
      rw [List.getElem?_append_right (by rw [markRow_length S N j hmk]; omega), markRow_length S N j hmk]
      rw [show j * S.sz + i - j * S.sz = i from by omega]
      exact hi
/-- A list of one's own whose elements are all the mark is full of it. -/
theorem marked_of_row {S : MarkSort} {W : World} {G : Nat → Nat → Prop} {v : Value} {n : Nat} {N : Int} (h : W.ownsRow 0 S.t S.sz v n (markRow S N n)) (hmk : (S.el N).length = S.sz) (hn : n ≤ 4611686018427387904 ∧ 0 ≤ N ∧ N ≤ 1000000000000000) (hg : ∀ g, v.ownBlock = some g → G g n) : Marked S W G v N := by
  obtain ⟨_, h⟩ := h
  rcases h with ⟨rfl, rfl⟩ | ⟨g, cap, cur, rfl, _, hcur, _, _, _, htk⟩
  · exact ⟨none, 0, 0, rfl, hn, fun j hj => absurd hj (by omega)⟩
  · refine ⟨_, n, cap, rfl, hn, fun j hj => ⟨g, cur, rfl, hg g rfl, hcur, fun i u hi => ?_⟩⟩
    have h1 := markRow_get S N hmk n j i u hj hi
    have h2 := (List.getElem?_eq_some_iff.1 h1).1
    rw [markRow_length S N n hmk] at h2
    have e : cur[j * S.sz + i]? = (markRow S N n)[j * S.sz + i]? := by
      rw [← htk, List.getElem?_take, if_pos h2]; simp
    rw [e, h1]
/-- A row each of whose elements is the mark is the row of marks. -/
theorem markRow_eq (S : MarkSort) (N : Int) (n : Nat) (hsz : 0 < S.sz) (hmk : (S.el N).length = S.sz) {xs : List Value} (hl : xs.length = n * S.sz) (h : ∀ j i, j < n → i < S.sz → xs[j * S.sz + i]? = (S.el N)[i]?) : xs = markRow S N n := by
  refine List.ext_getElem? fun i => ?_
  rcases Nat.lt_or_ge i (n * S.sz) with hi | hi
  · have h1 : i / S.sz < n := (Nat.div_lt_iff_lt_mul hsz).2 hi
    have h2 : i % S.sz < S.sz := Nat.mod_lt _ hsz
    have e : i / S.sz * S.sz + i % S.sz = i := by rw [Nat.mul_comm]; exact Nat.div_add_mod _ _
    obtain ⟨u, hu⟩ : ∃ u, (S.el N)[i % S.sz]? = some u := ⟨_, List.getElem?_eq_getElem (by omega)⟩
    have h3 := h _ _ h1 h2
    have h4 := markRow_get S N hmk n _ _ u h1 hu
    rw [e] at h3 h4
    rw [h3, h4, hu]
  · rw [List.getElem?_eq_none (by omega), List.getElem?_eq_none (by rw [markRow_length S N n hmk]; omega)]

/-- A book: its mark, and its list, of one of the three sorts. -/
abbrev Bk := Int × Value × Value × Value
def bkCells (bs : List Bk) : List Value := bs.flatMap fun x => [.int .i64 x.1, x.2.1, x.2.2.1, x.2.2.2]
theorem bkCells_length (bs : List Bk) : (bkCells bs).length = bs.length * 4 := by
  induction bs with
  | nil => rfl
  | cons x r ih => unfold bkCells at ih ⊢; simp [ih]; omega
theorem bkCells_snoc (bs : List Bk) (N : Int) (v t m : Value) : bkCells (bs ++ [(N, v, t, m)]) = bkCells bs ++ [.int .i64 N, v, t, m] := by simp [bkCells]
theorem bkCells_get (bs : List Bk) : ∀ (j : Nat) (x : Bk), bs[j]? = some x → (bkCells bs)[j * 4]? = some (.int .i64 x.1) ∧ (bkCells bs)[j * 4 + 1]? = some x.2.1 ∧ (bkCells bs)[j * 4 + 2]? = some x.2.2.1 ∧ (bkCells bs)[j * 4 + 3]? = some x.2.2.2 := by
  induction bs with
  | nil => intro j x h; simp at h
  | cons y r ih =>
    intro j x h
    cases j with
    | zero => simp at h; subst h; exact ⟨rfl, rfl, rfl, rfl⟩
    | succ j =>
      have := ih j x (by simpa using h)
      have e : ∀ k, (bkCells (y :: r))[(j + 1) * 4 + k]? = (bkCells r)[j * 4 + k]? := fun k => by
        show ([Value.int .i64 y.1, y.2.1, y.2.2.1, y.2.2.2] ++ bkCells r)[(j + 1) * 4 + k]? = _
        rw [List.getElem?_append_right (by simp; omega)]
        congr 1
        simp; omega
      exact ⟨(e 0).trans this.1, (e 1).trans this.2.1, (e 2).trans this.2.2.1, (e 3).trans this.2.2.2⟩
/-- Whatever list a book has, it is full of the book's mark. -/
def MarkedB (W : World) (G : Nat → Nat → Prop) (x : Bk) : Prop := Marked sortV W G x.2.1 x.1 ∧ Marked sortT W G x.2.2.1 x.1 ∧ Marked sortM W G x.2.2.2 x.1
/-- The three sorts' types. -/
def Sorted3 (t : TypeId) : Prop := t = 84 ∨ t = 76 ∨ t = 139
theorem MarkedB.kept {X : Nat → Prop} {W W' : World} {G G' : Nat → Nat → Prop} {x : Bk} (h : MarkedB W G x) (k : Kept X W W') (hx : ∀ g n t cs, Sorted3 t → BoxAt W g t cs → G g n → ¬ X g) (hg : ∀ g n t cs, Sorted3 t → BoxAt W g t cs → G g n → G' g n) : MarkedB W' G' x :=
  ⟨h.1.kept k (fun g n cs => hx g n _ cs (.inl rfl)) (fun g n cs => hg g n _ cs (.inl rfl)), h.2.1.kept k (fun g n cs => hx g n _ cs (.inr (.inl rfl))) (fun g n cs => hg g n _ cs (.inr (.inl rfl))), h.2.2.kept k (fun g n cs => hx g n _ cs (.inr (.inr rfl))) (fun g n cs => hg g n _ cs (.inr (.inr rfl)))⟩

theorem Sorted3.ne {t : TypeId} (h : Sorted3 t) : t ≠ 56 ∧ t ≠ 106 := by
  rcases h with rfl | rfl | rfl <;> decide
theorem boxAt_type {W : World} {B : Nat} {t t' : TypeId} {cs cs' : Array Value} (h : BoxAt W B t cs) (h' : BoxAt W B t' cs') : t = t' := by
  have := h.symm.trans h'
  simp at this
  exact this.2
theorem boxAt_cells {W : World} {B : Nat} {t t' : TypeId} {cs cs' : Array Value} (h : BoxAt W B t cs) (h' : BoxAt W B t' cs') : cs = cs' := by
  have := h.symm.trans h'
  simp at this
  exact this.1
theorem Marked.grown0 {S S0 : MarkSort} {W W' : World} {row : Option Nat} {G G' : Nat → Nat → Prop} {v : Value} {N : Int} (h : Marked S W G v N) (hgr : W.grownBy W' row) (hne : S.t ≠ S0.t) (hk : ∀ B t cs, row = some B → BoxAt W B t cs → t = S0.t) (hg : ∀ g n cs, BoxAt W g S.t cs → G g n → G' g n) : Marked S W' G' v N :=
  h.kept (Kept.grown hgr (X := fun b => row = some b) (fun _ e => e)) (fun g _ cs hb _ e => hne (hk g _ cs e hb)) hg
/-- An append to a list of one sort keeps every marked list, of that sort too. -/
theorem MarkedB.grown {S0 : MarkSort} {W W' : World} {row : Option Nat} {n0 : Nat} {G G' : Nat → Nat → Prop} {x : Bk} (h : MarkedB W G x) (hgr : W.grownBy W' row) (hS : S0 = sortV ∨ S0 = sortT ∨ S0 = sortM)
    (hk : ∀ B t cs, row = some B → BoxAt W B t cs → t = S0.t ∧ ∃ cs', BoxAt W' B t cs' ∧ ∀ j, j < n0 * S0.sz → cs'[j]? = cs[j]?) (hg : ∀ g n t cs, Sorted3 t → BoxAt W g t cs → G g n → (row = some g → n ≤ n0) ∧ G' g n) : MarkedB W' G' x := by
  obtain ⟨h1, h2, h3⟩ := h
  have hV : ∀ g n cs, BoxAt W g sortV.t cs → G g n → G' g n := fun g n cs hb hG => (hg g n _ cs (.inl rfl) hb hG).2
  have hT : ∀ g n cs, BoxAt W g sortT.t cs → G g n → G' g n := fun g n cs hb hG => (hg g n _ cs (.inr (.inl rfl)) hb hG).2
  have hM : ∀ g n cs, BoxAt W g sortM.t cs → G g n → G' g n := fun g n cs hb hG => (hg g n _ cs (.inr (.inr rfl)) hb hG).2
  have hk0 : ∀ B t cs, row = some B → BoxAt W B t cs → t = S0.t := fun B t cs e hb => (hk B t cs e hb).1
  have hk1 : ∀ B cs, row = some B → BoxAt W B S0.t cs → ∃ cs', BoxAt W' B S0.t cs' ∧ ∀ j, j < n0 * S0.sz → cs'[j]? = cs[j]? := fun B cs e hb => (hk B _ cs e hb).2
  rcases hS with rfl | rfl | rfl
  · exact ⟨h1.grown hgr rfl hk1 (fun g n cs hb hG => hg g n _ cs (.inl rfl) hb hG), h2.grown0 hgr (by decide) hk0 hT, h3.grown0 hgr (by decide) hk0 hM⟩
  · exact ⟨h1.grown0 hgr (by decide) hk0 hV, h2.grown hgr rfl hk1 (fun g n cs hb hG => hg g n _ cs (.inr (.inl rfl)) hb hG), h3.grown0 hgr (by decide) hk0 hM⟩
  · exact ⟨h1.grown0 hgr (by decide) hk0 hV, h2.grown0 hgr (by decide) hk0 hT, h3.grown hgr rfl hk1 (fun g n cs hb hG => hg g n _ cs (.inr (.inr rfl)) hb hG)⟩

/-- The cells of the books' block. -/
abbrev booksCells (N came : Int) (kV wV kT wT kM wM vA : Value) : Array Value := #[.int .i64 N, .int .i64 came, .bool false, kV, wV, kT, wT, kM, wM, vA]
/-- The books at block B: how many marks, how many lists came, what was kept and what it was, and which lists are full of which mark. -/
def BooksX (F : Nat → Prop) (G : Nat → Nat → Prop) (W : World) (B : Nat) (N came : Int) (kV wV kT wT kM wM : Value) (bs : List Bk) : Prop :=
  ∃ vA, BoxAt W B 56 (booksCells N came kV wV kT wT kM wM vA) ∧ W.ownsRow 0 106 4 vA bs.length (bkCells bs) ∧ F B ∧ (∀ g, vA.ownBlock = some g → F g) ∧ ∀ x ∈ bs, MarkedB W G x
theorem BooksX.kept {X F F' : Nat → Prop} {G G' : Nat → Nat → Prop} {W W' : World} {B : Nat} {N came : Int} {kV wV kT wT kM wM : Value} {bs : List Bk} (h : BooksX F G W B N came kV wV kT wT kM wM bs) (k : Kept X W W') (hx : ∀ g, g < W.heap.size → F g → ¬ X g) (hy : ∀ g n, g < W.heap.size → G g n → ¬ X g)
    (hf : ∀ g, g < W.heap.size → F g → F' g) (hg : ∀ g n, g < W.heap.size → G g n → G' g n) : BooksX F' G' W' B N came kV wV kT wT kM wM bs := by
  obtain ⟨vA, h1, h2, h3, h4, h5⟩ := h
  exact ⟨vA, h1.kept k (hx B h1.lt h3), row_kept h2 k (fun g e => hx g (h2.lt g e).2 (h4 g e)) (Nat.le_refl _), hf B h1.lt h3, fun g e => hf g (h2.lt g e).2 (h4 g e), fun x hxm => (h5 x hxm).kept k (fun g n t cs _ hb => hy g n hb.lt) (fun g n t cs _ hb => hg g n hb.lt)⟩
/-- Cells written one behind another, and a list of cells with them. -/
def putAll (W : World) (g o : Nat) : List Value → World
  | [] => W
  | u :: r => putAll (W.setCell ⟨g, o, none⟩ u) g (o + 1) r
def setAll (xs : List Value) (o : Nat) : List Value → List Value
  | [] => xs
  | u :: r => setAll (xs.set o u) (o + 1) r
theorem setAll_length : ∀ (us xs : List Value) (o : Nat), (setAll xs o us).length = xs.length
  | [], _, _ => rfl
  | u :: r, xs, o => by rw [setAll, setAll_length r]; simp
theorem setAll_out : ∀ (us xs : List Value) (o k : Nat), (k < o ∨ o + us.length ≤ k) → (setAll xs o us)[k]? = xs[k]?
  | [], _, _, _, _ => rfl
  | u :: r, xs, o, k, h => by
    rw [setAll, setAll_out r _ _ _ (by simp at h; omega), List.getElem?_set_ne (by simp at h; omega)]
theorem setAll_in : ∀ (us xs : List Value) (o i : Nat), i < us.length → o + us.length ≤ xs.length → (setAll xs o us)[o + i]? = us[i]?
  | [], _, _, _, h, _ => absurd h (by simp)
  | u :: r, xs, o, 0, _, h2 => by
    simp at h2
    rw [setAll, setAll_out r _ _ _ (by omega), Nat.add_zero, List.getElem?_set_self (by omega)]; simp
  | u :: r, xs, o, i + 1, h1, h2 => by
    simp at h1 h2
    rw [setAll, show o + (i + 1) = o + 1 + i from by omega, setAll_in r _ _ _ (by omega) (by simp; omega)]; simp
/-- What stands in a list of one's own may be written over. -/
theorem row_putAll {e sz n g cap : Nat} : ∀ (us xs : List Value) (o : Nat) (W : World), W.ownsRow 0 e sz (.slice (some ⟨g, 0, none⟩) n cap) n xs → o + us.length ≤ n * sz → (putAll W g o us).ownsRow 0 e sz (.slice (some ⟨g, 0, none⟩) n cap) n (setAll xs o us)
  | [], _, _, _, h, _ => h
  | u :: r, xs, o, W, h, hl => by
    simp at hl
    rw [putAll, setAll]
    refine row_putAll r _ _ _ ?_ (by omega)
    obtain ⟨hx, h⟩ := h
    rcases h with ⟨h0, _⟩ | ⟨g', cap', cur, h0, hb, hcur, hnc, hcm, hcs, htk⟩
    · cases h0
    · cases h0
      refine ⟨by simpa using hx, .inr ⟨g, cap, _, rfl, hb, BoxAt.setAt hcur o u, hnc, hcm, by simpa using hcs, ?_⟩⟩
      rw [← htk]
      simp [List.take_set]
theorem kept_putAll {X : Nat → Prop} {A : World} {g : Nat} (hg : X g ∨ A.heap.size ≤ g) : ∀ (us : List Value) (o : Nat) (W : World), Kept X A W → Kept X A (putAll W g o us)
  | [], _, _, h => h
  | u :: r, _, _, h => kept_putAll hg r _ _ (h.setCell hg u)
end Go.Proofs.YtgbneeohaboncaaGreatDoor
