/-
  Unfold of the document's example: its four values; and of whatever program, with what its list holds said cell by cell.
-/
import Derived.Test.YtfanaanofjhlkaaDoorStep
namespace Go.Proofs.YtfanaanofjhlkaaDoor
open Go Go.RowKit

/-- A list of tasks' values lies at a slice. -/
def ValsAt (ok : Nat → Prop) (W : World) (a : Option Addr) (ks : List KindS) (l : List TaskS) : Prop :=
  ∀ j t, l[j]? = some t → ∃ g, a = some ⟨g, 0, none⟩ ∧ ok g ∧ g < W.heap.size ∧ W.cell? ⟨g, j * 2, none⟩ = some (.string t.id) ∧ W.cell? ⟨g, j * 2 + 1, none⟩ = some (.int .i64 (valueOf ks t))

theorem taskCells_get (ks : List KindS) (l : List TaskS) : ∀ (j : Nat) (t : TaskS), l[j]? = some t → (taskCells ks l)[j * 2]? = some (.string t.id) ∧ (taskCells ks l)[j * 2 + 1]? = some (.int .i64 (valueOf ks t)) := by
  induction l with
  | nil => intro j d h; simp at h
  | cons e r ih =>
    intro j d h
    unfold taskCells
    rw [List.flatMap_cons]
    cases j with
    | zero => simp at h; subst h; exact ⟨rfl, rfl⟩
    | succ j =>
      obtain ⟨h1, h2⟩ := ih j d (by simpa using h)
      rw [show (j + 1) * 2 = j * 2 + 2 from by omega]
      constructor
      · rw [List.getElem?_append_right (by simp)]
        have e : j * 2 + 2 - [Value.string e.id, Value.int .i64 (valueOf ks e)].length = j * 2 := by simp
        rw [e]; exact h1
      · rw [List.getElem?_append_right (by simp)]
        have e : j * 2 + 2 + 1 - [Value.string e.id, Value.int .i64 (valueOf ks e)].length = j * 2 + 1 := by simp
        rw [e]; exact h2

theorem valsAt_of_row {W : World} {base : Nat} {v : Value} {ks : List KindS} {l : List TaskS} (h : W.ownsRow base 32 2 v l.length (taskCells ks l)) : ∃ a cap, v = .slice a l.length cap ∧ ValsAt (fun b => base ≤ b) W a ks l := by
  obtain ⟨a, cap, rfl, hc⟩ := row_slice h
  refine ⟨a, cap, rfl, fun j t hj => ?_⟩
  obtain ⟨h0, h1⟩ := taskCells_get ks l j t hj
  obtain ⟨g, rfl, hg, hgl, c0⟩ := hc _ _ h0
  obtain ⟨g', e, _, _, c1⟩ := hc _ _ h1
  cases e
  exact ⟨g, rfl, hg, hgl, c0, c1⟩
theorem ValsAt.kept {ok X : Nat → Prop} {W W' : World} {a : Option Addr} {ks : List KindS} {l : List TaskS} (h : ValsAt ok W a ks l) (k : Kept X W W') (hx : ∀ b, ok b → b < W.heap.size → ¬ X b) : ValsAt ok W' a ks l := by
  intro j t hj
  obtain ⟨g, ha, hok, hg, c0, c1⟩ := h j t hj
  exact ⟨g, ha, hok, Nat.lt_of_lt_of_le hg k.size, (k.cell (p := ⟨g, _, none⟩) hg (hx g hok hg)).trans c0, (k.cell (p := ⟨g, _, none⟩) hg (hx g hok hg)).trans c1⟩

theorem unfold_at (a : Option Addr) (cap : Nat) (kind arg : Int) (ks : List KindS) (w : World) (ok : Nat → Prop) (hk : KindsAt ok w (.slice a ks.length cap) ks) (hl : ks.length ≤ 9223372036854775806) (hl2 : ∀ k ∈ ks, k.kids.length ≤ 9223372036854775806) :
    Calls Tryd.prog 5 #[.agg #[.slice a ks.length cap, .int .i64 kind, .int .i64 arg]] w fun e w' => ∃ a' cap', e = .returned (.tuple #[.slice a' (unfoldS ks kind arg).2.length cap', .int .i64 (unfoldS ks kind arg).1]) ∧
      ValsAt (fun b => w.heap.size ≤ b) w' a' ks (unfoldS ks kind arg).2 ∧ Below w.heap.size w w' := by
  have hk' : KindsAt (fun _ => True) w (.slice a ks.length cap) ks := by
    obtain ⟨a', cap', hs, hc⟩ := hk
    refine ⟨a', cap', hs, fun j k hj => ?_⟩
    obtain ⟨b, o, kv, h1, _, h2, h3, h4, h5, a2, cap2, hs2, hc2⟩ := hc j k hj
    refine ⟨b, o, kv, h1, trivial, h2, h3, h4, h5, a2, cap2, hs2, fun j' c hj' => ?_⟩
    obtain ⟨b', o', g1, _, g2⟩ := hc2 j' c hj'
    exact ⟨b', o', g1, trivial, g2⟩
  refine (unfold_calls a cap kind arg ks w hk' hl hl2).mono ?_
  rintro e w' ⟨v, rfl, hrow, hb⟩
  obtain ⟨a', cap', rfl, hv⟩ := valsAt_of_row hrow
  exact ⟨a', cap', rfl, hv, hb⟩

/-- The document's program. -/
def exKs : List KindS := [⟨2, 1, [⟨0, 1⟩, ⟨0, 2⟩]⟩]
def exTasks : List TaskS := [⟨⟨#[]⟩, 0, 2⟩, ⟨⟨#[48]⟩, 0, 1⟩, ⟨⟨#[48, 48]⟩, 0, 0⟩, ⟨⟨#[49]⟩, 0, 0⟩]
theorem ex_unfold : unfoldS exKs 0 2 = (0, exTasks) := by kernel_rfl
theorem ex_values : exTasks.map (valueOf exKs) = [5, 3, 1, 1] := by kernel_rfl

theorem unfold_example (w : World) (B C : Nat) (hB : BoxAt w B 46 #[.int .i64 0, .int .i64 1, .int .i64 0, .int .i64 2]) (hC : BoxAt w C 49 #[.int .i64 2, .int .i64 1, .slice (some ⟨B, 0, none⟩) 2 2]) :
    Calls Tryd.prog 5 #[.agg #[.slice (some ⟨C, 0, none⟩) 1 1, .int .i64 0, .int .i64 2]] w fun e w' => ∃ g cap', e = .returned (.tuple #[.slice (some ⟨g, 0, none⟩) 4 cap', .int .i64 0]) ∧ w.heap.size ≤ g ∧ g < w'.heap.size ∧
      w'.cell? ⟨g, 0, none⟩ = some (.string ⟨#[]⟩) ∧ w'.cell? ⟨g, 1, none⟩ = some (.int .i64 5) ∧ w'.cell? ⟨g, 2, none⟩ = some (.string ⟨#[48]⟩) ∧ w'.cell? ⟨g, 3, none⟩ = some (.int .i64 3) ∧
      w'.cell? ⟨g, 4, none⟩ = some (.string ⟨#[48, 48]⟩) ∧ w'.cell? ⟨g, 5, none⟩ = some (.int .i64 1) ∧ w'.cell? ⟨g, 6, none⟩ = some (.string ⟨#[49]⟩) ∧ w'.cell? ⟨g, 7, none⟩ = some (.int .i64 1) ∧ Below w.heap.size w w' := by
  have hk : KindsAt (fun _ => True) w (.slice (some ⟨C, 0, none⟩) exKs.length 1) exKs := by
    refine ⟨_, 1, rfl, fun j k hj => ?_⟩
    have hj0 : j = 0 := by
      rcases Nat.lt_or_ge j 1 with h | h
      · omega
      · rw [List.getElem?_eq_none (by simpa [exKs] using h)] at hj; cases hj
    subst hj0
    simp only [exKs, List.getElem?_cons_zero, Option.some.injEq] at hj
    subst hj
    refine ⟨C, 0, .slice (some ⟨B, 0, none⟩) 2 2, rfl, trivial, hC.lt, hC.cell rfl, hC.cell rfl, hC.cell rfl, some ⟨B, 0, none⟩, 2, rfl, fun i c hi => ?_⟩
    match i, hi with
    | 0, hi => simp only [List.getElem?_cons_zero, Option.some.injEq] at hi; subst hi; exact ⟨B, 0, rfl, trivial, hB.lt, hB.cell rfl, hB.cell rfl⟩
    | 1, hi => simp only [List.getElem?_cons_succ, List.getElem?_cons_zero, Option.some.injEq] at hi; subst hi; exact ⟨B, 0, rfl, trivial, hB.lt, hB.cell rfl, hB.cell rfl⟩
    | i + 2, hi => simp at hi
  refine (unfold_at (some ⟨C, 0, none⟩) 1 0 2 exKs w _ hk (by simp [exKs]) (by intro k hk'; simp [exKs] at hk'; subst hk'; simp)).mono ?_
  rintro e w' ⟨a', cap', rfl, hv, hb⟩
  rw [ex_unfold] at hv ⊢
  have hval : ∀ (j : Nat) (t : TaskS) (v : Int), exTasks[j]? = some t → [(5 : Int), 3, 1, 1][j]? = some v → valueOf exKs t = v := fun j t v h1 h2 => by
    have := congrArg (fun l : List Int => l[j]?) ex_values
    simp only [List.getElem?_map, h1, h2] at this
    simpa using this
  obtain ⟨g, rfl, hg, hgl, c0, c1⟩ := hv 0 _ rfl
  obtain ⟨g1, e1, _, _, c2, c3⟩ := hv 1 _ rfl
  obtain ⟨g2, e2, _, _, c4, c5⟩ := hv 2 _ rfl
  obtain ⟨g3, e3, _, _, c6, c7⟩ := hv 3 _ rfl
  cases e1; cases e2; cases e3
  rw [hval 0 _ 5 rfl rfl] at c1
  rw [hval 1 _ 3 rfl rfl] at c3
  rw [hval 2 _ 1 rfl rfl] at c5
  rw [hval 3 _ 1 rfl rfl] at c7
  exact ⟨g, cap', rfl, hg, hgl, c0, c1, c2, c3, c4, c5, c6, c7, hb⟩
end Go.Proofs.YtfanaanofjhlkaaDoor
