/-
  What is read of a program that is handed in: its kinds and their kids lie in memory, within the reach.
-/
import Derived.Test.YtfanaanofjhlkaaDoorProg
import Derived.Test.YtfanaanofjhlkaaDoorShape
import Derived.Deep.Slices
import Derived.Deep.SlicePairs
import Derived.Deep.Strs
import Derived.Lib.SmallJoins
import Derived.SizedLaws
namespace Go.Proofs.YtfanaanofjhlkaaDoor
open Go Go.RowKit Go.Deep Go.ChangeShapes Go.WideShapes

theorem cellsI : Tryd.prog.cellsOf 3 = 1 := by kernel_rfl
theorem cellsKid : Tryd.prog.cellsOf 46 = 2 := by kernel_rfl
theorem cellsKind : Tryd.prog.cellsOf 49 = 3 := by kernel_rfl
theorem cellsKids : Tryd.prog.cellsOf 47 = 1 := by kernel_rfl
theorem cellsKinds : Tryd.prog.cellsOf 22 = 1 := by kernel_rfl
theorem cellsProgram : Tryd.prog.cellsOf 24 = 3 := by kernel_rfl
theorem bytesKid : Tryd.prog.bytesOf 46 = 16 := by kernel_rfl
theorem bytesKind : Tryd.prog.bytesOf 49 = 40 := by kernel_rfl

theorem addr_plain {W : World} {a : Addr} {i : Nat} {u v : Value} (h0 : W.cell? (a.add 0) = some u) (h : W.cell? (a.add i) = some v) : ∃ b o, a = ⟨b, o, none⟩ ∧ b < W.heap.size ∧ W.cell? ⟨b, o + i, none⟩ = some v := by
  obtain ⟨b, o, spot⟩ := a
  have h1 : spot = none := by simpa [Addr.add] using World.cell?_spot h0
  subst h1
  have h2 := World.block_lt_of_cell? W _ h0
  rw [Addr.add_lit] at h h2
  exact ⟨b, o, rfl, h2, h⟩

theorem list3 {l : List Value} (h : l.length = 3) : ∃ a b c, l = [a, b, c] := by
  match l, h with
  | [a, b, c], _ => exact ⟨a, b, c, rfl⟩

section
variable {H : Type} {enc : TypeId × Value → H} {W : World} {spare : Nat → Bool} {held : Bool}

theorem kids_opened {fuel : Nat} {v : Value} {x : DataW H × List MemPlace} (h : DataW.trod enc Tryd.prog W 0 spare held fuel 47 [v] = some x) :
    ∃ kids : List KidS, KidsAt (fun _ => True) W v kids ∧ (kids.length = 0 ∨ ∃ el sp, x.1 = .slice el sp ∧ el.length = kids.length) := by
  rcases open_slice_pairs Tryd.underlying47 Tryd.underlying46 cellsKid rfl rfl cellsI cellsI h with ⟨h0, -⟩ | ⟨a, len, cap, m, n, V0, V1, D0, D1, P0, P1, h0, -, hlc, hcm, hm, rfl, hx⟩
  · simp only [List.cons.injEq, and_true] at h0
    subst h0
    exact ⟨[], ⟨none, 0, rfl, fun j c hj => by simp at hj⟩, .inl rfl⟩
  · simp only [List.cons.injEq, and_true] at h0
    subst h0
    have hlm : len ≤ m := by rw [hm]; split <;> omega
    obtain ⟨k0, hk0⟩ := choose_lt (α := Int) (n := len) (p := fun i z => V0 i = .int .i64 z) (fun i hi => by
      obtain ⟨_, _, h1, _⟩ := hx i (by omega)
      obtain ⟨z, hz, _⟩ := DataW.trod_int Tryd.underlying3 h1
      exact ⟨z, by simpa using hz⟩)
    obtain ⟨k1, hk1⟩ := choose_lt (α := Int) (n := len) (p := fun i z => V1 i = .int .i64 z) (fun i hi => by
      obtain ⟨_, _, _, h1⟩ := hx i (by omega)
      obtain ⟨z, hz, _⟩ := DataW.trod_int Tryd.underlying3 h1
      exact ⟨z, by simpa using hz⟩)
    refine ⟨(List.range len).map fun i => ⟨k0 i, k1 i⟩, ⟨some a, cap, by simp, fun j c hj => ?_⟩, .inr ⟨_, _, rfl, by simp⟩⟩
    have hjl : j < len := by simpa using (List.getElem?_eq_some_iff.1 hj).1
    simp [hjl] at hj
    subst hj
    obtain ⟨c0, c1, _, _⟩ := hx j (by omega)
    rw [hk0 j hjl] at c0
    rw [hk1 j hjl] at c1
    have a0 := (hx 0 (by omega)).1
    rw [Nat.zero_mul] at a0
    obtain ⟨b, o, rfl, hb, e0⟩ := addr_plain a0 c0
    obtain ⟨b', o', e, _, e1⟩ := addr_plain a0 c1
    cases e
    exact ⟨b, o, rfl, trivial, hb, e0, by rw [Nat.add_assoc]; exact e1⟩

theorem weights_all {e : TypeId} {l : List (DataW H)} {d : DataW H} (hd : d ∈ l) : ∀ n ∈ d.weights Tryd.prog e, n ∈ DataW.weightsAll Tryd.prog e l := by
  induction l with
  | nil => cases hd
  | cons x r ih =>
    intro n hn
    unfold DataW.weightsAll
    rcases List.mem_cons.1 hd with rfl | hd
    · exact List.mem_append_left _ hn
    · exact List.mem_append_right _ (ih hd n hn)

theorem kinds_opened {fuel : Nat} {v : Value} {x : DataW H × List MemPlace} (h : DataW.trod enc Tryd.prog W 0 spare held fuel 22 [v] = some x) (hw : ∀ n ∈ x.1.weights Tryd.prog 22, n ≤ reachBytes) :
    ∃ ks : List KindS, KindsAt (fun _ => True) W v ks ∧ ks.length * 40 ≤ reachBytes ∧ ∀ k ∈ ks, k.kids.length * 16 ≤ reachBytes := by
  rcases open_slice Tryd.underlying22 h with ⟨h0, -⟩ | ⟨a, len, cap, m, n, D, Pl, h0, -, hlc, hcm, hm, rfl, hx⟩
  · simp only [List.cons.injEq, and_true] at h0
    subst h0
    exact ⟨[], ⟨none, 0, rfl, fun j c hj => by simp at hj⟩, by simp, fun k hk => by cases hk⟩
  · simp only [List.cons.injEq, and_true] at h0
    subst h0
    have hlm : len ≤ m := by rw [hm]; split <;> omega
    have hlen : len * 40 ≤ reachBytes := by
      have := hw ((((List.range len).map D).length + ((List.range (m - len)).map fun j => D (len + j)).length) * Tryd.prog.bytesOf 49) (by simp [DataW.weights, Tryd.underlying22])
      rw [bytesKind] at this
      simp only [List.length_map, List.length_range] at this
      have h2 : len * 40 ≤ (len + (m - len)) * 40 := Nat.mul_le_mul_right _ (by omega)
      exact Nat.le_trans h2 this
    have each : ∀ i, i < len → ∃ k : KindS, ∃ kv, W.cell? (a.add (i * 3)) = some (.int .i64 k.A) ∧ W.cell? (a.add (i * 3 + 1)) = some (.int .i64 k.B) ∧ W.cell? (a.add (i * 3 + 2)) = some kv ∧ KidsAt (fun _ => True) W kv k.kids ∧ k.kids.length * 16 ≤ reachBytes := by
      intro i hi
      obtain ⟨cs', h1, h2⟩ := hx i (by omega)
      rw [cellsKind] at h1
      obtain ⟨_, hl, hcell⟩ := World.cells?_some h1
      obtain ⟨y0, y1, y2, n', hD, _, g0, g1, g2⟩ := trod_struct3 Tryd.underlying49 h2
      obtain ⟨v0, v1, v2, rfl⟩ := list3 hl
      have e0 := hcell 0 (by omega)
      have e1 := hcell 1 (by omega)
      have e2 := hcell 2 (by omega)
      rw [add_add] at e0 e1 e2
      simp only [cellsI, cellsKids, List.drop_zero, List.drop_succ_cons, List.take_succ_cons, List.take_zero] at g0 g1 g2
      obtain ⟨z0, hz0, _⟩ := DataW.trod_int Tryd.underlying3 g0
      obtain ⟨z1, hz1, _⟩ := DataW.trod_int Tryd.underlying3 g1
      obtain ⟨kids, hk, hlk⟩ := kids_opened g2
      simp only [List.cons.injEq, and_true] at hz0 hz1
      subst hz0 hz1
      refine ⟨⟨z0, z1, kids⟩, v2, by simpa using e0, by simpa using e1, by simpa using e2, hk, ?_⟩
      rcases hlk with h0 | ⟨el, sp, hy, hel⟩
      · rw [h0]; simp
      · have hDi : D i ∈ (List.range len).map D := List.mem_map.2 ⟨i, List.mem_range.2 hi, rfl⟩
        have := hw ((el.length + sp.length) * Tryd.prog.bytesOf 46) (by
          simp only [DataW.weights, Tryd.underlying22]
          refine List.mem_cons_of_mem _ (List.mem_append_left _ (weights_all hDi _ ?_))
          simp only [Prod.mk.injEq] at hD
          rw [hD.1]
          simp [DataW.weights, DataW.weightsEach, Tryd.underlying49, hy, Tryd.underlying47])
        rw [bytesKid, hel] at this
        have h2 : kids.length * 16 ≤ (kids.length + sp.length) * 16 := Nat.mul_le_mul_right _ (by omega)
        exact Nat.le_trans h2 this
    have hin : Inhabited KindS := ⟨⟨0, 0, []⟩⟩
    obtain ⟨K, hK⟩ := choose_lt each
    refine ⟨(List.range len).map K, ⟨some a, cap, by simp, fun j c hj => ?_⟩, by simpa using hlen, fun k hk => ?_⟩
    · have hjl : j < len := by simpa using (List.getElem?_eq_some_iff.1 hj).1
      simp [hjl] at hj
      subst hj
      obtain ⟨kv, c0, c1, c2, hk, _⟩ := hK j hjl
      obtain ⟨_, a0, _⟩ := hK 0 (by omega)
      rw [Nat.zero_mul] at a0
      obtain ⟨b, o, rfl, hb, e0⟩ := addr_plain a0 c0
      obtain ⟨b1, o1, e, _, e1⟩ := addr_plain a0 c1
      cases e
      obtain ⟨b2, o2, e, _, e2⟩ := addr_plain a0 c2
      cases e
      exact ⟨b, o, kv, rfl, trivial, hb, e0, by rw [Nat.add_assoc]; exact e1, by rw [Nat.add_assoc]; exact e2, hk⟩
    · obtain ⟨i, hi, rfl⟩ := List.mem_map.1 hk
      obtain ⟨_, _, _, _, _, h⟩ := hK i (List.mem_range.1 hi)
      exact h
end
end Go.Proofs.YtfanaanofjhlkaaDoor
