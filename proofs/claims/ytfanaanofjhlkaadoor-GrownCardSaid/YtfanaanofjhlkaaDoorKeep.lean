/-
  values.Set.Keep puts a value into the map under its ID, and turns nothing else; what a map of values holds, as plain facts.
-/
import Derived.Test.YtfanaanofjhlkaaDoorLeaves
import Derived.Maps.OwnSet
import Derived.Maps.OwnIn
namespace Go.Proofs.YtfanaanofjhlkaaDoor
open Go Go.RowKit Go.Maps Go.WideMaps

theorem strKeyed : Keyed Tryd.prog 9 := string_keyed Tryd.underlying9
theorem zeroInt (w : World) : (zeroValue 3).run Tryd.prog w = .ok (.int .i64 0) w := by kernel_rfl

/-- Block M is a map of values that reads as D. -/
def MapIs (W : World) (M : Nat) (D : DataW Unit) : Prop := W.ownsMap Tryd.prog 9 (plainElem Tryd.prog 3) M (Maps.size D) D
/-- An ID as a key, a number as an element. -/
def keyL (id : ByteArray) : Lit := .string id.data.toList
def elemD (v : Int) : DataW Unit := .lit (.int .i64 v)

theorem mapIs_of {W : World} {M n : Nat} {D : DataW Unit} (h : W.ownsMap Tryd.prog 9 (plainElem Tryd.prog 3) M n D) : MapIs W M D := by
  obtain ⟨es, clock, hb, hf, hs, hD⟩ := h
  refine ⟨es, clock, hb, hf, ?_, hD⟩
  rw [hD]
  show es.size ≤ List.length _
  rw [length_sorted]; simp
theorem MapIs.lt {W : World} {M : Nat} {D : DataW Unit} (h : MapIs W M D) : M < W.heap.size := World.ownsMap.lt h
theorem MapIs.kept {X : Nat → Prop} {W W' : World} {M : Nat} {D : DataW Unit} (h : MapIs W M D) (k : Kept X W W') (hx : ¬ X M) : MapIs W' M D := by
  obtain ⟨es, clock, hb, hf, hs, hD⟩ := h
  exact ⟨es, clock, k.heap hb hx, hf, hs, hD⟩
theorem MapIs.below {n : Nat} {W W' : World} {M : Nat} {D : DataW Unit} (h : MapIs W M D) (k : Below n W W') (hx : M < n) : MapIs W' M D :=
  h.kept (X := fun k => n ≤ k) (Kept.of_below k (fun _ _ h => h)) (by omega)

set_option maxHeartbeats 1000000 in
theorem keep_calls (M b o : Nat) (D : DataW Unit) (id : ByteArray) (v : Int) (w : World) (hm : MapIs w M D) (hn : Maps.size D < 100000000) (hid : id.size ≤ 100000000) (hv : (Lit.int .i64 v).wf = true)
    (c0 : w.cell? ⟨b, o, none⟩ = some (.string id)) (c1 : w.cell? ⟨b, o + 1, none⟩ = some (.int .i64 v)) (hb : b < w.heap.size) :
    Calls Tryd.prog 19 #[.map (some M), .slice (some ⟨b, o, none⟩) 1 1] w fun e w' => (∃ u, e = .returned u) ∧ MapIs w' M (D.put (keyL id) (elemD v)) ∧ Kept (· = M) w w' := by
  have hMl := hm.lt
  have hkey : keyOf Tryd.prog 9 (.string id) = some (keyL id) := keyOf_string_mk Tryd.underlying9 (by unfold maxLen; omega)
  go_enter Tryd.func19, Tryd.ntmps19
  go_wp2
  go_loopw [8] (fun i wr => (i = .int .i64 0 ∧ wr = w) ∨ (i = .int .i64 1 ∧ MapIs wr M (D.put (keyL id) (elemD v)) ∧ Kept (· = M) w wr)) (fun i _ => 1 - (intOf i).toNat)
  case atStart => exact .inl ⟨rfl, rfl⟩
  case round =>
    rcases hrel with ⟨rfl, rfl⟩ | ⟨rfl, hm1, hk1⟩
    · have hown := (World.ownsMap.alloc (show wr.ownsMap Tryd.prog 9 (plainElem Tryd.prog 3) M (Maps.size D) D from hm) (.cells #[.string id, .int .i64 v] 32))
      go_wp2_with (first
        | (at_mapUpdate; refine wpList_mapUpdate_own _ rfl _ _ _ 59 rfl 9 3 strKeyed Tryd.underlying59 _ M (Maps.size D) _ rfl hown (by unfold maxLen; omega) _ _ _ rfl rfl hkey _ [] (plainElem_int Tryd.underlying3 hv) ?_)
        | go_in)
      intro w1 hown1 hgrow1
      go_wp2
      go_roundw
      case rel => exact .inr ⟨rfl, mapIs_of hown1, (Kept.alloc _ _ _).trans (Kept.grown hgrow1 (fun r e => by cases e; rfl))⟩
      case measure => simp [intOf]
    · go_wp2
      go_end0
      exact ⟨⟨_, rfl⟩, hm1, hk1⟩
end Go.Proofs.YtfanaanofjhlkaaDoor
