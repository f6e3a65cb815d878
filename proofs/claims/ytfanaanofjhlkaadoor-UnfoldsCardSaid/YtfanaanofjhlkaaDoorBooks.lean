/-
  An append keeps what lay in the slice's array, whether it fits or not; books of lists that are full of their marks.
-/
import Derived.Test.YtfanaanofjhlkaaDoorLent
import Derived.Deep.AppendLies
import Derived.OwnWalk
import Derived.ArgAppend
namespace Go.Proofs.YtfanaanofjhlkaaDoor
open Go Go.RowKit

theorem ownsRow_base {W : World} {base base' e size n : Nat} {v : Value} {xs : List Value} (h : W.ownsRow base e size v n xs) (hb : base' ≤ base) : W.ownsRow base' e size v n xs :=
  row_kept h (Kept.refl (fun _ => False) _) (fun _ _ h => h) hb

/-- An append to a list of one's own: where its array has room the elements stay, else the array stays. -/
theorem wpList_append_keeps {P : Program} {w : World} {ops : Array Oper} {rest : List Oper} {o : Oper} {a : Act} {Q : Exit → Act → World → Prop} (hgd : o.guard = none) (s x : Operand) (t : TypeId)
    (ho : o.op = .call { callee := .builtin .append, args := #[s, x], argTypes := #[t, t] })
    (base : Nat) (e : TypeId) (i : TypeInfo) (z : Value) (size bytes : Nat) (ht : P.underlying t = some (.slice e)) (hi : P.info? e = some i) (hz : i.zero = some z)
    (hsize : i.size = size) (hby : i.bytes = bytes) (hzs : z.cells.size = size) (hsz : 0 < size)
    (v : Value) (n : Nat) (xs : List Value) (hs : a.eval s = v) (hown : w.ownsRow base e size v n xs)
    (ad : Addr) (m c : Nat) (news : List Value) (hx : a.eval x = .slice (some ad) m c) (hl : news.length = m * size) (hnews : ∀ j u, news[j]? = some u → w.cell? (ad.add j) = some u) (h1 : ∀ u ∈ news, u.oneCell' = true)
    (hm : 0 < m) (h63 : n + m ≤ maxLen) (hbytes : (n + m) * bytes ≤ 140737488355328) (hbase : base ≤ w.heap.size)
    (h : ∀ g cap w', w'.ownsRow base e size (.slice (some ⟨g, 0, none⟩) (n + m) cap) (n + m) (xs ++ news) → w.grownBy w' v.ownBlock → (v.ownBlock = some g ∨ w.heap.size ≤ g) →
      Hid (∀ B cs, v.ownBlock = some B → BoxAt w B e cs → ∃ cs', BoxAt w' B e cs' ∧ ∀ j, j < n * size → cs'[j]? = cs[j]?) → wpList P ops Q rest (a.put o.dst (.slice (some ⟨g, 0, none⟩) (n + m) cap)) w') : wpList P ops Q (o :: rest) a w := by
  obtain ⟨hxl, hv⟩ := hown
  rcases hv with ⟨rfl, rfl⟩ | ⟨g, cap, cur, rfl, hbg, hcur, hnc, hcm, hcs, htk⟩
  · obtain rfl : xs = [] := List.eq_nil_of_length_eq_zero (by simpa using hxl)
    refine wpList_append_grows w hgd s x t ho e i z size bytes ht hi hz hsize hby hzs hsz none 0 0 [] hs (fun _ => ⟨rfl, rfl⟩) (by simp) (fun _ h => by cases h) ad m c news hx hl hnews h1 (by omega) h63 hbytes ?_
    intro v' w' hown' hgrow
    obtain ⟨g, cap, rfl, hg1, hg2⟩ := World.ownsRow.form hown' (by omega)
    exact h g cap w' (ownsRow_base hown' hbase) hgrow (.inr hg1) (fun B cs e => by cases e)
  · have hlt : g < w.heap.size := (Array.getElem?_eq_some_iff.1 hcur).1
    by_cases hr : n + m ≤ cap
    · refine wpList_append_fits w hgd s x t ho base e i size ht hi hsize g n cap xs hs ⟨hxl, .inr ⟨g, cap, cur, rfl, hbg, hcur, hnc, hcm, hcs, htk⟩⟩ ad m c news hx hl hnews h1 hr ?_
      intro w' hown' hgrow
      refine h g cap w' hown' hgrow (.inl rfl) ?_
      obtain ⟨_, hv'⟩ := hown'
      rcases hv' with ⟨h0, _⟩ | ⟨g', cap', cur', h0, _, hcur', _, _, hcs', htk'⟩
      · cases h0
      · cases h0
        intro B cs hB hcsB
        obtain rfl : g = B := by simpa [Value.ownBlock] using hB
        obtain rfl : cur = cs := by
          have := hcur.symm.trans hcsB
          simpa using this
        refine ⟨cur', hcur', fun j hj => ?_⟩
        have e1 : cur'[j]? = (xs ++ news)[j]? := by
          rw [← htk', List.getElem?_take, if_pos (by rw [Nat.add_mul]; omega)]; simp
        have e2 : cur[j]? = xs[j]? := by
          rw [← htk, List.getElem?_take, if_pos hj]; simp
        rw [e1, e2, List.getElem?_append_left (by omega)]
    · refine wpList_append_grows w hgd s x t ho e i z size bytes ht hi hz hsize hby hzs hsz (some ⟨g, 0, none⟩) n cap xs hs (fun e => by cases e) hxl (fun b hb j u hj => ?_) ad m c news hx hl hnews h1 (by omega) h63 hbytes ?_
      · cases hb
        exact World.ownsRow.cells (base := base) (e := e) (size := size) (n := n) ⟨hxl, .inr ⟨g, cap, cur, rfl, hbg, hcur, hnc, hcm, hcs, htk⟩⟩ (g := g) rfl j u hj
      · intro v' w' hown' hgrow
        obtain ⟨g', cap', rfl, hg1, hg2⟩ := World.ownsRow.form hown' (by omega)
        refine h g' cap' w' (ownsRow_base hown' hbase) ⟨hgrow.os, hgrow.tape, hgrow.output, hgrow.size, fun k hk _ => hgrow.block k hk (by simp)⟩ (.inr hg1) (fun B cs hB hcsB => ⟨cs, (hgrow.block B (BoxAt.lt hcsB) (by simp)).trans hcsB, fun _ _ => rfl⟩)

/-- A list of values that is full of the mark N. -/
def MarkAt (W : World) (G : Nat → Nat → Prop) (v : Value) (N : Int) : Prop :=
  ∃ a n cap, v = .slice a n cap ∧ (n ≤ 4611686018427387904 ∧ 0 ≤ N ∧ N ≤ 100000) ∧ ∀ j, j < n → ∃ g cs, a = some ⟨g, 0, none⟩ ∧ G g n ∧ BoxAt W g 32 cs ∧ cs[j * 2]? = some (.string ⟨#[]⟩) ∧ cs[j * 2 + 1]? = some (.int .i64 (-100000 - N))
theorem MarkAt.kept {X : Nat → Prop} {W W' : World} {G G' : Nat → Nat → Prop} {v : Value} {N : Int} (h : MarkAt W G v N) (k : Kept X W W') (hx : ∀ g n cs, BoxAt W g 32 cs → G g n → ¬ X g) (hg : ∀ g n cs, BoxAt W g 32 cs → G g n → G' g n) : MarkAt W' G' v N := by
  obtain ⟨a, n, cap, rfl, hn, h⟩ := h
  refine ⟨a, n, cap, rfl, hn, fun j hj => ?_⟩
  obtain ⟨g, cs, h1, h2, h3, h4⟩ := h j hj
  exact ⟨g, cs, h1, hg g n cs h3 h2, h3.kept k (hx g n cs h3 h2), h4⟩
theorem MarkAt.mono {W : World} {G G' : Nat → Nat → Prop} {v : Value} {N : Int} (h : MarkAt W G v N) (hg : ∀ g n cs, BoxAt W g 32 cs → G g n → G' g n) : MarkAt W G' v N :=
  h.kept (Kept.refl (fun _ => False) _) (fun _ _ _ _ _ h => h) hg

/-- The cells of a list of books. -/
def bookCells (bs : List (Int × Value)) : List Value := bs.flatMap fun x => [.int .i64 x.1, x.2, .slice none 0 0, .slice none 0 0]
theorem bookCells_length (bs : List (Int × Value)) : (bookCells bs).length = bs.length * 4 := by
  induction bs with
  | nil => rfl
  | cons x r ih => unfold bookCells at ih ⊢; simp [ih]; omega
theorem bookCells_snoc (bs : List (Int × Value)) (N : Int) (v : Value) : bookCells (bs ++ [(N, v)]) = bookCells bs ++ [.int .i64 N, v, .slice none 0 0, .slice none 0 0] := by simp [bookCells]
theorem bookCells_get (bs : List (Int × Value)) : ∀ (j : Nat) (x : Int × Value), bs[j]? = some x → (bookCells bs)[j * 4]? = some (.int .i64 x.1) ∧ (bookCells bs)[j * 4 + 1]? = some x.2 ∧ (bookCells bs)[j * 4 + 2]? = some (.slice none 0 0) ∧ (bookCells bs)[j * 4 + 3]? = some (.slice none 0 0) := by
  induction bs with
  | nil => intro j x h; simp at h
  | cons y r ih =>
    intro j x h
    cases j with
    | zero => simp at h; subst h; exact ⟨rfl, rfl, rfl, rfl⟩
    | succ j =>
      have := ih j x (by simpa using h)
      have e : ∀ k, (bookCells (y :: r))[(j + 1) * 4 + k]? = (bookCells r)[j * 4 + k]? := fun k => by
        show ([Value.int .i64 y.1, y.2, .slice none 0 0, .slice none 0 0] ++ bookCells r)[(j + 1) * 4 + k]? = _
        rw [List.getElem?_append_right (by simp; omega)]
        congr 1
        simp; omega
      exact ⟨(e 0).trans this.1, (e 1).trans this.2.1, (e 2).trans this.2.2.1, (e 3).trans this.2.2.2⟩

/-- The books at block B: how many marks, how many lists came, what was kept and what it was, and which lists are full of which mark. -/
def BooksAt (F : Nat → Prop) (G : Nat → Nat → Prop) (W : World) (B : Nat) (N came : Int) (kV wV : Value) (bs : List (Int × Value)) : Prop :=
  ∃ vA, BoxAt W B 39 #[.int .i64 N, .int .i64 came, .bool false, kV, wV, .slice none 0 0, .slice none 0 0, .slice none 0 0, .slice none 0 0, vA] ∧ W.ownsRow 0 71 4 vA bs.length (bookCells bs) ∧ F B ∧ (∀ g, vA.ownBlock = some g → F g) ∧
    ∀ x ∈ bs, MarkAt W G x.2 x.1
theorem BooksAt.kept {X F F' : Nat → Prop} {G G' : Nat → Nat → Prop} {W W' : World} {B : Nat} {N came : Int} {kV wV : Value} {bs : List (Int × Value)} (h : BooksAt F G W B N came kV wV bs) (k : Kept X W W') (hx : ∀ g, F g → ¬ X g) (hy : ∀ g n cs, BoxAt W g 32 cs → G g n → ¬ X g)
    (hf : ∀ g, g < W.heap.size → F g → F' g) (hg : ∀ g n, g < W.heap.size → G g n → G' g n) : BooksAt F' G' W' B N came kV wV bs := by
  obtain ⟨vA, h1, h2, h3, h4, h5⟩ := h
  exact ⟨vA, h1.kept k (hx B h3), row_kept h2 k (fun g e => hx g (h4 g e)) (Nat.le_refl _), hf B h1.lt h3, fun g e => hf g (h2.lt g e).2 (h4 g e), fun x hxm => (h5 x hxm).kept k hy (fun g n cs hb => hg g n hb.lt)⟩
theorem MarkAt.grown {W W' : World} {row : Option Nat} {n0 : Nat} {G G' : Nat → Nat → Prop} {v : Value} {N : Int} (h : MarkAt W G v N) (hgr : W.grownBy W' row)
    (hk : ∀ B cs, row = some B → BoxAt W B 32 cs → ∃ cs', BoxAt W' B 32 cs' ∧ ∀ j, j < n0 * 2 → cs'[j]? = cs[j]?) (hg : ∀ g n cs, BoxAt W g 32 cs → G g n → (row = some g → n ≤ n0) ∧ G' g n) : MarkAt W' G' v N := by
  obtain ⟨a, n, cap, rfl, hn, h⟩ := h
  refine ⟨a, n, cap, rfl, hn, fun j hj => ?_⟩
  obtain ⟨g, cs, h1, h2, h3, h4, h5⟩ := h j hj
  obtain ⟨h6, h7⟩ := hg g n cs h3 h2
  by_cases hr : row = some g
  · obtain ⟨cs', k1, k2⟩ := hk g cs hr h3
    have := h6 hr
    exact ⟨g, cs', h1, h7, k1, (k2 _ (by omega)).trans h4, (k2 _ (by omega)).trans h5⟩
  · exact ⟨g, cs, h1, h7, (hgr.block g h3.lt (fun e => hr e.symm)).trans h3, h4, h5⟩
end Go.Proofs.YtfanaanofjhlkaaDoor
