/-
  A program in memory, and one that was lent: what more may be written.
-/
import Derived.Test.YtfanaanofjhlkaaDoorKeptP
namespace Go.Proofs.YtfanaanofjhlkaaDoor
open Go Go.RowKit

theorem KidsAt.mono {ok ok' : Nat → Prop} {W : World} {v : Value} {l : List KidS} (h : KidsAt ok W v l) (hx : ∀ b, ok b → ok' b) : KidsAt ok' W v l := by
  obtain ⟨a, cap, rfl, hc⟩ := h
  refine ⟨a, cap, rfl, fun j c hj => ?_⟩
  obtain ⟨b, o, ha, hok, hb⟩ := hc j c hj
  exact ⟨b, o, ha, hx b hok, hb⟩
theorem KindsAt.mono {ok ok' : Nat → Prop} {W : World} {v : Value} {l : List KindS} (h : KindsAt ok W v l) (hx : ∀ b, ok b → ok' b) : KindsAt ok' W v l := by
  obtain ⟨a, cap, rfl, hc⟩ := h
  refine ⟨a, cap, rfl, fun j c hj => ?_⟩
  obtain ⟨b, o, kv, ha, hok, hb, c0, c1, c2, hk⟩ := hc j c hj
  exact ⟨b, o, kv, ha, hx b hok, hb, c0, c1, c2, hk.mono hx⟩
theorem LentAt.kept {X : Nat → Prop} {W W' : World} {BL S : Nat} {K : Nat → Nat} {ks : List KindS} (h : LentAt W BL K ks) (k : Kept X W W') (hx : ∀ b, BL ≤ b → b < S → ¬ X b) (hS : BL < S) (hK : ∀ j, j < ks.length → K j < S) : LentAt W' BL K ks := by
  obtain ⟨cs, h1, h2, h3, h4⟩ := h
  refine ⟨cs, h1.kept k (hx BL (Nat.le_refl _) hS), h2, ⟨fun j c hj hc => ?_, h3.2⟩, h4⟩
  obtain ⟨g1, g2, g3, g4⟩ := h3.1 j c hj hc
  exact ⟨g1, g2.kept k (hx _ (Nat.le_of_lt g3) (hK j hj)), g3, Nat.lt_of_lt_of_le g4 k.size⟩
theorem LentAt.lt {W : World} {BL : Nat} {K : Nat → Nat} {ks : List KindS} (h : LentAt W BL K ks) (j : Nat) (hj : j < ks.length) : K j < W.heap.size := by
  obtain ⟨cs, h1, h2, h3, h4⟩ := h
  exact (h3.1 j _ hj (List.getElem?_eq_getElem hj)).2.2.2
theorem row_later {W W' : World} {base e size n : Nat} {v : Value} {xs : List Value} (h : W.ownsRow base e size v n xs) (k : Below W.heap.size W W') : W'.ownsRow base e size v n xs :=
  row_below h k (fun g e => (h.lt g e).2)
end Go.Proofs.YtfanaanofjhlkaaDoor
