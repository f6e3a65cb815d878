/-
  Lists of values that lie in memory, and gleanlaw.sameV: two lists that hold the same it calls the same.
-/
import Derived.Test.YtfanaanofjhlkaaDoorExample
import Derived.Test.YtfanaanofjhlkaaDoorStep2
import Derived.Deep.DeepCutAuto
import Derived.Deep.AppendLies
import Derived.Laws.StructEq
namespace Go.Proofs.YtfanaanofjhlkaaDoor
open Go Go.RowKit

/-- A list of values lies at a slice's value. -/
def PairsAt (W : World) (v : Value) (l : List (ByteArray × Int)) : Prop :=
  ∃ a cap, v = .slice a l.length cap ∧ ∀ j x, l[j]? = some x → ∃ g o, a = some ⟨g, o, none⟩ ∧ g < W.heap.size ∧ W.cell? ⟨g, o + j * 2, none⟩ = some (.string x.1) ∧ W.cell? ⟨g, o + j * 2 + 1, none⟩ = some (.int .i64 x.2)
def pairCells (l : List (ByteArray × Int)) : List Value := l.flatMap fun x => [.string x.1, .int .i64 x.2]
def pairsOf (ks : List KindS) (l : List TaskS) : List (ByteArray × Int) := l.map fun t => (t.id, valueOf ks t)
theorem taskCells_pairs (ks : List KindS) (l : List TaskS) : taskCells ks l = pairCells (pairsOf ks l) := by
  simp [taskCells, pairCells, pairsOf, List.flatMap_map]
theorem pairsOf_length (ks : List KindS) (l : List TaskS) : (pairsOf ks l).length = l.length := by simp [pairsOf]

theorem pairCells_get (l : List (ByteArray × Int)) : ∀ (j : Nat) (x : ByteArray × Int), l[j]? = some x → (pairCells l)[j * 2]? = some (.string x.1) ∧ (pairCells l)[j * 2 + 1]? = some (.int .i64 x.2) := by
  induction l with
  | nil => intro j d h; simp at h
  | cons e r ih =>
    intro j d h
    unfold pairCells
    rw [List.flatMap_cons]
    cases j with
    | zero => simp at h; subst h; exact ⟨rfl, rfl⟩
    | succ j =>
      obtain ⟨h1, h2⟩ := ih j d (by simpa using h)
      rw [show (j + 1) * 2 = j * 2 + 2 from by omega]
      constructor
      · rw [List.getElem?_append_right (by simp)]
        have e : j * 2 + 2 - [Value.string e.1, Value.int .i64 e.2].length = j * 2 := by simp
        rw [e]; exact h1
      · rw [List.getElem?_append_right (by simp)]
        have e : j * 2 + 2 + 1 - [Value.string e.1, Value.int .i64 e.2].length = j * 2 + 1 := by simp
        rw [e]; exact h2
theorem pairCells_length (l : List (ByteArray × Int)) : (pairCells l).length = l.length * 2 := by
  induction l with
  | nil => rfl
  | cons x r ih => unfold pairCells at ih ⊢; simp [ih]; omega
theorem pairs_of_row {W : World} {base n : Nat} {v : Value} {l : List (ByteArray × Int)} (h : W.ownsRow base 32 2 v n (pairCells l)) : n = l.length ∧ PairsAt W v l := by
  have hn : n = l.length := by
    have := h.1
    rw [pairCells_length] at this
    omega
  subst hn
  obtain ⟨a, cap, rfl, hc⟩ := row_slice h
  refine ⟨rfl, a, cap, rfl, fun j x hj => ?_⟩
  obtain ⟨h0, h1⟩ := pairCells_get l j x hj
  obtain ⟨g, rfl, hg, hgl, c0⟩ := hc _ _ h0
  obtain ⟨g', e, _, _, c1⟩ := hc _ _ h1
  cases e
  exact ⟨g, 0, rfl, hgl, by rw [Nat.zero_add]; exact c0, by rw [Nat.zero_add]; exact c1⟩
theorem PairsAt.below {n : Nat} {W W' : World} {v : Value} {l : List (ByteArray × Int)} (h : PairsAt W v l) (hb : Below n W W') (hn : W.heap.size ≤ n) : PairsAt W' v l := by
  obtain ⟨a, cap, rfl, hc⟩ := h
  refine ⟨a, cap, rfl, fun j x hj => ?_⟩
  obtain ⟨g, o, ha, hg, c0, c1⟩ := hc j x hj
  exact ⟨g, o, ha, Nat.lt_of_lt_of_le hg hb.size, (hb.cell (p := ⟨g, _, none⟩) (Nat.lt_of_lt_of_le hg hn)).trans c0, (hb.cell (p := ⟨g, _, none⟩) (Nat.lt_of_lt_of_le hg hn)).trans c1⟩
theorem pairs_nil (W : World) : PairsAt W (.slice none 0 0) [] := ⟨none, 0, rfl, fun j x h => by simp at h⟩

theorem valueHeld : Tryd.prog.stoodInHeld 32 = false := by kernel_rfl
theorem valueGuard : Tryd.prog.eqGuardType Tryd.prog.depth 32 = false := by kernel_rfl

set_option maxHeartbeats 1000000 in
theorem sameV_calls (va vb : Value) (l : List (ByteArray × Int)) (w : World) (ha : PairsAt w va l) (hb : PairsAt w vb l) (hl : l.length ≤ 9223372036854775806) :
    Calls Tryd.prog 7 #[va, vb] w fun e w' => e = .returned (.bool true) ∧ Below w.heap.size w w' := by
  obtain ⟨a, cap, rfl, hca⟩ := ha
  obtain ⟨b, cap', rfl, hcb⟩ := hb
  have hs := valueHeld
  have hg := valueGuard
  go_enter Tryd.func7, Tryd.ntmps7
  go_wp2_with fail
  go_loopw [5] (fun i wr => ∃ k : Nat, k ≤ l.length ∧ i = .int .i64 k ∧ Below w.heap.size w wr) (fun i _ => l.length - (intOf i).toNat)
  case atStart => exact ⟨0, Nat.zero_le _, rfl, Below.refl _ _⟩
  case round =>
    obtain ⟨k, hk, rfl, hbw⟩ := hrel
    by_cases hlt : k < l.length
    · obtain ⟨x, hx⟩ : ∃ x, l[k]? = some x := ⟨_, List.getElem?_eq_getElem hlt⟩
      obtain ⟨g, o, rfl, hgl, c0, c1⟩ := hca k x hx
      obtain ⟨g', o', rfl, hgl', c2, c3⟩ := hcb k x hx
      have d0 := (hbw.cell (p := ⟨g, o + k * 2, none⟩) hgl).trans c0
      have d1 := (hbw.cell (p := ⟨g, o + k * 2 + 1, none⟩) hgl).trans c1
      have d2 := (hbw.cell (p := ⟨g', o' + k * 2, none⟩) hgl').trans c2
      have d3 := (hbw.cell (p := ⟨g', o' + k * 2 + 1, none⟩) hgl').trans c3
      have i1 : (0 : Int) ≤ (k : Int) := by omega
      have i2 : (k : Int) < (l.length : Int) := by omega
      clear hca hcb c0 c1 c2 c3
      go_wp2_with fail
      go_quiet (fail)
      go_wp2_with fail
      go_roundw
      case rel => exact ⟨k + 1, by omega, by go_num, below_drewN hbw _⟩
      case measure => simp [intOf]; omega
    · go_wp2_with fail
      go_ret
      exact ⟨rfl, hbw⟩
end Go.Proofs.YtfanaanofjhlkaaDoor
