/-
  Small facts on blocks and on kinds that many walks need.
-/
import Derived.Test.YtfanaanofjhlkaaDoorUnfold
namespace Go.Proofs.YtfanaanofjhlkaaDoor
open Go Go.RowKit

theorem BoxAt.drewN {W : World} {B : Nat} {t : TypeId} {cs : Array Value} (h : BoxAt W B t cs) (n : Nat) : BoxAt (W.drewN n) B t cs := h
theorem Kept.drewN {X : Nat → Prop} {A W : World} (h : Kept X A W) (n : Nat) : Kept X A (W.drewN n) := ⟨h.os, h.tape, h.output, h.size, h.block⟩

theorem cell_far {w : World} {a : Addr} {v : Value} (h : w.cell? a = some v) (p : Addr) (u : Value) (hne : a.block ≠ p.block) : (w.setCell p u).cell? a = some v :=
  (World.cell?_of_block (w := w) (Below.heap_setCell w p u a.block hne)).trans h

def pickS (c n : Int) : Int := (if c < 0 then -(c + 1) else c) % n
theorem pickS_range (c n : Int) (hn : 1 ≤ n) : 0 ≤ pickS c n ∧ pickS c n < n := ⟨Int.emod_nonneg _ (by omega), Int.emod_lt_of_pos _ (by omega)⟩

/-- What is known of the kind of a task of a program. -/
theorem kind_facts {ks : List KindS} {kind arg : Int} (hp : progB ks kind arg = true) {k : Int} (h0 : 0 ≤ k) (h1 : k < ks.length) :
    ∃ (j : Nat) (c : KindS), k = (j : Int) ∧ ks[j]? = some c ∧ kindAt ks k = c ∧ c.kids.length ≤ 3 ∧ (∀ d ∈ c.kids, 1 ≤ d.less ∧ d.less ≤ 9 ∧ 0 ≤ d.kind ∧ d.kind < ks.length) ∧ (-1000 ≤ c.A ∧ c.A ≤ 1000) ∧ (-1000 ≤ c.B ∧ c.B ≤ 1000) := by
  obtain ⟨j, rfl⟩ := Int.eq_ofNat_of_zero_le h0
  have hj : j < ks.length := by omega
  obtain ⟨c, hcc⟩ : ∃ c, ks[j]? = some c := ⟨_, List.getElem?_eq_getElem hj⟩
  have hkb : kindB ks.length c = true := by
    simp [progB] at hp
    exact hp.1.1.2 c (List.mem_of_getElem? hcc)
  refine ⟨j, c, rfl, hcc, by simp [kindAt, hcc], ?_, ?_, ?_, ?_⟩
  · simp [kindB] at hkb; exact hkb.1.2
  · intro d hd; simp [kindB, kidB, numB, rangeB] at hkb; have := hkb.2 d hd; omega
  · simp [kindB, rangeB] at hkb; omega
  · simp [kindB, rangeB] at hkb; omega

theorem BoxAt.setAt {W : World} {B : Nat} {t : TypeId} {cs : Array Value} (h : BoxAt W B t cs) (o : Nat) (v : Value) : BoxAt (W.setCell ⟨B, o, none⟩ v) B t (cs.setIfInBounds o v) := by
  obtain ⟨hlt, hk⟩ := Array.getElem?_eq_some_iff.1 h
  show (W.heap.modify B _)[B]? = _
  rw [Array.getElem?_eq_getElem (by rw [Array.size_modify]; exact hlt), Array.getElem_modify_self, hk]
  rfl
theorem BoxAt.far {W : World} {B : Nat} {t : TypeId} {cs : Array Value} (h : BoxAt W B t cs) (p : Addr) (v : Value) (hne : B ≠ p.block) : BoxAt (W.setCell p v) B t cs :=
  (Below.heap_setCell W p v B hne).trans h

end Go.Proofs.YtfanaanofjhlkaaDoor
