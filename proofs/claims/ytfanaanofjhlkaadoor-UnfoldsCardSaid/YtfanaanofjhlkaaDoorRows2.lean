/-
  Lists of kinds and of kids that a call itself has made: they lie as a program's lists do, and stay while other blocks turn.
-/
import Derived.Test.YtfanaanofjhlkaaDoorBasics
namespace Go.Proofs.YtfanaanofjhlkaaDoor
open Go Go.RowKit

def kidCells (l : List KidS) : List Value := l.flatMap fun d => [.int .i64 d.kind, .int .i64 d.less]
def kindCells (l : List (KindS × Value)) : List Value := l.flatMap fun p => [.int .i64 p.1.A, .int .i64 p.1.B, p.2]

theorem kidCells_get (l : List KidS) : ∀ (j : Nat) (d : KidS), l[j]? = some d → (kidCells l)[j * 2]? = some (.int .i64 d.kind) ∧ (kidCells l)[j * 2 + 1]? = some (.int .i64 d.less) := by
  induction l with
  | nil => intro j d h; simp at h
  | cons e r ih =>
    intro j d h
    unfold kidCells
    rw [List.flatMap_cons]
    cases j with
    | zero => simp at h; subst h; exact ⟨rfl, rfl⟩
    | succ j =>
      obtain ⟨h1, h2⟩ := ih j d (by simpa using h)
      rw [show (j + 1) * 2 = j * 2 + 2 from by omega]
      constructor
      · rw [List.getElem?_append_right (by simp)]
        have e : j * 2 + 2 - [Value.int .i64 e.kind, Value.int .i64 e.less].length = j * 2 := by simp
        rw [e]; exact h1
      · rw [List.getElem?_append_right (by simp)]
        have e : j * 2 + 2 + 1 - [Value.int .i64 e.kind, Value.int .i64 e.less].length = j * 2 + 1 := by simp
        rw [e]; exact h2
theorem kindCells_get (l : List (KindS × Value)) : ∀ (j : Nat) (p : KindS × Value), l[j]? = some p → (kindCells l)[j * 3]? = some (.int .i64 p.1.A) ∧ (kindCells l)[j * 3 + 1]? = some (.int .i64 p.1.B) ∧ (kindCells l)[j * 3 + 2]? = some p.2 := by
  induction l with
  | nil => intro j d h; simp at h
  | cons e r ih =>
    intro j p h
    unfold kindCells
    rw [List.flatMap_cons]
    cases j with
    | zero => simp at h; subst h; exact ⟨rfl, rfl, rfl⟩
    | succ j =>
      obtain ⟨h1, h2, h3⟩ := ih j p (by simpa using h)
      rw [show (j + 1) * 3 = j * 3 + 3 from by omega]
      refine ⟨?_, ?_, ?_⟩
      · rw [List.getElem?_append_right (by simp)]
        have e : j * 3 + 3 - [Value.int .i64 e.1.A, Value.int .i64 e.1.B, e.2].length = j * 3 := by simp
        rw [e]; exact h1
      · rw [List.getElem?_append_right (by simp)]
        have e : j * 3 + 3 + 1 - [Value.int .i64 e.1.A, Value.int .i64 e.1.B, e.2].length = j * 3 + 1 := by simp
        rw [e]; exact h2
      · rw [List.getElem?_append_right (by simp)]
        have e : j * 3 + 3 + 2 - [Value.int .i64 e.1.A, Value.int .i64 e.1.B, e.2].length = j * 3 + 2 := by simp
        rw [e]; exact h3

theorem row_slice {W : World} {base e size n : Nat} {v : Value} {xs : List Value} (h : W.ownsRow base e size v n xs) :
    ∃ a cap, v = .slice a n cap ∧ ∀ (j : Nat) (u : Value), xs[j]? = some u → ∃ g, a = some ⟨g, 0, none⟩ ∧ base ≤ g ∧ g < W.heap.size ∧ W.cell? ⟨g, j, none⟩ = some u := by
  have h1 := h.1
  rcases h.2 with ⟨rfl, h0⟩ | ⟨g, cap, cur, rfl, hg, hgb, _⟩
  · subst h0
    refine ⟨none, 0, rfl, fun k s hs => ?_⟩
    simp at h1
    subst h1
    simp at hs
  · refine ⟨_, cap, rfl, fun k s hs => ⟨g, rfl, hg, (Array.getElem?_eq_some_iff.1 hgb).1, ?_⟩⟩
    have := h.cells (g := g) rfl k s hs
    rwa [addr_add] at this

theorem kidsAt_of_row {W : World} {base : Nat} {v : Value} {l : List KidS} (h : W.ownsRow base 46 2 v l.length (kidCells l)) : KidsAt (fun b => base ≤ b) W v l := by
  obtain ⟨a, cap, rfl, hc⟩ := row_slice h
  refine ⟨a, cap, rfl, fun j c hj => ?_⟩
  obtain ⟨h0, h1⟩ := kidCells_get l j c hj
  obtain ⟨g, rfl, hg, hgl, c0⟩ := hc _ _ h0
  obtain ⟨g', e, _, _, c1⟩ := hc _ _ h1
  cases e
  exact ⟨g, 0, rfl, hg, hgl, by rw [Nat.zero_add]; exact c0, by rw [Nat.zero_add]; exact c1⟩

/-- A list of kinds in rows of the call's own. -/
def KindsRow (W : World) (base : Nat) (v : Value) (l : List (KindS × Value)) : Prop :=
  W.ownsRow base 49 3 v l.length (kindCells l) ∧ ∀ p ∈ l, W.ownsRow base 46 2 p.2 p.1.kids.length (kidCells p.1.kids)

theorem KindsRow.at {W : World} {base : Nat} {v : Value} {l : List (KindS × Value)} (h : KindsRow W base v l) : KindsAt (fun b => base ≤ b) W v (l.map Prod.fst) := by
  obtain ⟨a, cap, rfl, hc⟩ := row_slice h.1
  refine ⟨a, cap, by simp, fun j k hj => ?_⟩
  rw [List.getElem?_map] at hj
  obtain ⟨p, hp, rfl⟩ := Option.map_eq_some_iff.1 hj
  obtain ⟨h0, h1, h2⟩ := kindCells_get l j p hp
  obtain ⟨g, rfl, hg, hgl, c0⟩ := hc _ _ h0
  obtain ⟨g', e, _, _, c1⟩ := hc _ _ h1
  cases e
  obtain ⟨g', e, _, _, c2⟩ := hc _ _ h2
  cases e
  exact ⟨g, 0, p.2, rfl, hg, hgl, by rw [Nat.zero_add]; exact c0, by rw [Nat.zero_add]; exact c1, by rw [Nat.zero_add]; exact c2, kidsAt_of_row (h.2 p (List.mem_of_getElem? hp))⟩

/-- A row is no block of another element type. -/
theorem row_ne {W : World} {base e t size n B : Nat} {v : Value} {xs : List Value} {cs : Array Value} {fr : Nat × Nat} (h : W.ownsRow base e size v n xs) (hB : W.heap[B]? = some (.cells cs t fr)) (hte : t ≠ e) : v.ownBlock ≠ some B := by
  rcases h.2 with ⟨rfl, _⟩ | ⟨g, cap, cur, rfl, _, hgb, _⟩
  · simp [Value.ownBlock]
  · intro e'
    obtain rfl : g = B := by simpa [Value.ownBlock] using e'
    rw [hB] at hgb
    simp at hgb
    exact hte hgb.2.1
theorem row_obj {W : World} {base e size n g : Nat} {v : Value} {xs : List Value} (h : W.ownsRow base e size v n xs) (hg : v.ownBlock = some g) : ∃ cs, W.heap[g]? = some (.cells cs e (0, 0)) := by
  rcases h.2 with ⟨rfl, _⟩ | ⟨g', cap, cur, rfl, _, hgb, _⟩
  · simp [Value.ownBlock] at hg
  · obtain rfl : g' = g := by simpa [Value.ownBlock] using hg
    exact ⟨cur, hgb⟩

theorem KindsRow.kept {X : Nat → Prop} {W W' : World} {base : Nat} {v : Value} {l : List (KindS × Value)} (h : KindsRow W base v l) (k : Kept X W W')
    (hX : ∀ b, X b → b < W.heap.size → ∃ cs t fr, W.heap[b]? = some (.cells cs t fr) ∧ t ≠ 49 ∧ t ≠ 46) : KindsRow W' base v l := by
  refine ⟨row_kept h.1 k (fun g hg hx => ?_) (Nat.le_refl _), fun p hp => row_kept (h.2 p hp) k (fun g hg hx => ?_) (Nat.le_refl _)⟩
  · obtain ⟨cs, hcs⟩ := row_obj h.1 hg
    obtain ⟨cs', t, fr, hcs', h1, _⟩ := hX g hx (Array.getElem?_eq_some_iff.1 hcs).1
    exact row_ne h.1 hcs' h1 hg
  · obtain ⟨cs, hcs⟩ := row_obj (h.2 p hp) hg
    obtain ⟨cs', t, fr, hcs', _, h2⟩ := hX g hx (Array.getElem?_eq_some_iff.1 hcs).1
    exact row_ne (h.2 p hp) hcs' h2 hg
theorem KindsRow.below {W W' : World} {base : Nat} {v : Value} {l : List (KindS × Value)} (h : KindsRow W base v l) (k : Below W.heap.size W W') : KindsRow W' base v l :=
  h.kept (X := fun b => W.heap.size ≤ b) (Kept.of_below k (fun _ _ h => h)) (fun _ h1 h2 => absurd h2 (Nat.not_lt_of_le h1))
end Go.Proofs.YtfanaanofjhlkaaDoor
