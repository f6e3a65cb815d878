/-
  values.Set.List hands back a new list of all values of a map, by their IDs: for whatever map of at most a million values.
-/
import Derived.Test.YtfanaanofjhlkaaDoorKeep
import Derived.Test.YtfanaanofjhlkaaDoorIter
import Derived.WalkSmall
namespace Go.Proofs.YtfanaanofjhlkaaDoor
open Go Go.RowKit Go.Maps Go.WideMaps Go.Sort

theorem infoValue : (Tryd.prog.info? 32).map (fun i => (i.zero, i.size, i.bytes)) = some (some (.agg #[.string ⟨#[]⟩, .int .i64 0]), 2, 24) := by kernel_rfl

/-- The number that stands under a key. -/
def valAt (D : DataW Unit) (s : List UInt8) : Int := match D.atKey (.string s) (.lit (.int .i64 0)) with
  | .lit (.int _ c) => c
  | _ => 0
/-- A list of keys with what stands under each, as cells. -/
def valCells (D : DataW Unit) (l : List (List UInt8)) : List Value := l.flatMap fun s => [encStr s, .int .i64 (valAt D s)]

theorem valCells_take (D : DataW Unit) (l : List (List UInt8)) (k : Nat) (s : List UInt8) (h : l[k]? = some s) : valCells D (l.take (k + 1)) = valCells D (l.take k) ++ [encStr s, .int .i64 (valAt D s)] := by
  have hk := (List.getElem?_eq_some_iff.1 h).1
  have he := (List.getElem?_eq_some_iff.1 h).2
  rw [List.take_succ_eq_append_getElem hk, he]
  simp [valCells]

theorem addr_add (g k : Nat) : (⟨g, 0, none⟩ : Addr).add k = ⟨g, k, none⟩ := by
  unfold Addr.add
  split
  · rename_i h; rw [h]
  · simp
theorem row_strings {W : World} {base e n : Nat} {v : Value} {S : List (List UInt8)} (h : W.ownsRow base e 1 v n (S.map encStr)) :
    ∃ ad cap, v = .slice ad n cap ∧ ∀ (k : Nat) (s : List UInt8), S[k]? = some s → ∃ g, ad = some ⟨g, 0, none⟩ ∧ base ≤ g ∧ g < W.heap.size ∧ W.cell? ⟨g, k, none⟩ = some (.string ⟨s.toArray⟩) := by
  have h1 := h.1
  rcases h.2 with ⟨rfl, h0⟩ | ⟨g, cap, cur, rfl, hg, hgb, _⟩
  · subst h0
    refine ⟨none, 0, rfl, fun k s hs => ?_⟩
    simp at h1
    subst h1
    simp at hs
  · refine ⟨_, cap, rfl, fun k s hs => ⟨g, rfl, hg, (Array.getElem?_eq_some_iff.1 hgb).1, ?_⟩⟩
    have := h.cells (g := g) rfl k (encStr s) (by simp [hs])
    rwa [addr_add] at this

theorem row_kept {X : Nat → Prop} {W W' : World} {base base' e size n : Nat} {v : Value} {xs : List Value} (h : W.ownsRow base e size v n xs) (hb : Kept X W W') (hv : ∀ g, v.ownBlock = some g → ¬ X g) (hB : base' ≤ base) : W'.ownsRow base' e size v n xs := by
  obtain ⟨h1, ⟨rfl, h0⟩ | ⟨g, cap, cur, rfl, hg, hgb, hr⟩⟩ := h
  · exact ⟨h1, .inl ⟨rfl, h0⟩⟩
  · exact ⟨h1, .inr ⟨g, cap, cur, rfl, Nat.le_trans hB hg, hb.heap hgb (hv g rfl), hr⟩⟩
theorem row_below {W W' : World} {base e size n m : Nat} {v : Value} {xs : List Value} (h : W.ownsRow base e size v n xs) (hb : Below m W W') (hv : ∀ g, v.ownBlock = some g → g < m) : W'.ownsRow base e size v n xs := by
  obtain ⟨h1, ⟨rfl, h0⟩ | ⟨g, cap, cur, rfl, hg, hgb, hr⟩⟩ := h
  · exact ⟨h1, .inl ⟨rfl, h0⟩⟩
  · exact ⟨h1, .inr ⟨g, cap, cur, rfl, hg, (hb.block g (hv g rfl)).trans hgb, hr⟩⟩

set_option maxHeartbeats 2000000 in
set_option maxRecDepth 100000 in
theorem list_calls (M : Nat) (D : DataW Unit) (w : World) (hm : MapIs w M D) (hn : Maps.size D ≤ 100000000) :
    Calls Tryd.prog 21 #[.map (some M)] w fun e w' => ∃ ss : List (List UInt8), ss.Perm (strKeys D) ∧ e = .returned (.slice (some ⟨w.heap.size, 0, none⟩) ss.length ss.length) ∧
      w'.ownsRow w.heap.size 32 2 (.slice (some ⟨w.heap.size, 0, none⟩) ss.length ss.length) ss.length (valCells D (ss.mergeSort (fun x y => decide (x ≤ y)))) ∧ Below w.heap.size w w' := by
  have hMl := hm.lt
  have hlen := World.ownsMap.len (show w.ownsMap Tryd.prog 9 (plainElem Tryd.prog 3) M (Maps.size D) D from hm) Tryd.underlying59 3
  obtain ⟨i0, hi, hz0, hz1, hz2⟩ := info_parts infoValue
  go_enter Tryd.func21, Tryd.ntmps21
  go_wp2_with (first
    | (at_make; refine wpList_make_own _ rfl _ _ 25 rfl w.heap.size 32 i0 _ 2 Tryd.underlying25 hi hz0 hz1 .i64 .i64 _ (Maps.size D) rfl rfl rfl (by rw [hz2]; omega) (by unfold maxLen; omega) (Nat.le_refl _) ?_)
    | go_in)
  intro w1 hown1 hgrow1
  have hm1 : MapIs w1 M D := hm.kept (X := fun _ => False) (Kept.grown hgrow1 (fun r e => by cases e)) (fun h => h)
  have hb1 : Below w.heap.size w w1 := (Below.refl _ w).grown hgrow1 (Nat.le_refl _) (fun k e => by cases e)
  clear hlen
  go_wp2_with (first
    | (go_at_call 38; refine (callsIn_wide.1 (Tryd.maps_Keys_38 _ _)).mono ?_; rintro e w' ⟨rfl, rfl⟩)
    | (go_at_call 37; refine (callsIn_wide.1 (Tryd.slices_Sorted_keys_37_38 M _ D _ w1 hm1 (by unfold maxLen; omega) (by omega))).mono ?_; rintro e w2 ⟨v, ss, rfl, hS, hrow, hnil, hb2⟩; obtain ⟨ad, cp, rfl, hcs⟩ := row_strings hrow))
  have HSS : Hid (ss.length = Maps.size D) := by
    show ss.length = Maps.size D
    rw [hS.length_eq]; cases D <;> simp [strKeys, Maps.size]
  have hle : ss.length ≤ Maps.size D := Nat.le_of_eq HSS.out
  have hS2 : (ss.mergeSort (fun x y => decide (x ≤ y))).length = ss.length := List.length_mergeSort _
  have hSle : ∀ s ∈ ss.mergeSort (fun x y => decide (x ≤ y)), s.length ≤ maxLen := fun s h =>
    strKeys_le (show w1.ownsMap Tryd.prog 9 (plainElem Tryd.prog 3) M (Maps.size D) D from hm1) Tryd.underlying9 s (hS.mem_iff.1 (List.mem_mergeSort.1 h))
  obtain ⟨S, hSd⟩ : ∃ S, ss.mergeSort (fun x y => decide (x ≤ y)) = S := ⟨_, rfl⟩
  rw [hSd] at hcs hS2 hSle
  have HSD : Hid (ss.mergeSort (fun x y => decide (x ≤ y)) = S) := hSd
  have hlS : ss.length ≤ S.length := by omega
  clear hSd hS2 hrow hnil
  have hB2 : Below w1.heap.size w1 w2 := ((Below.refl _ w1).alloc (Nat.le_refl _) _).trans (hb2.mono (by simp))
  have hs1 := hb1.size
  have hw1 : w.heap.size < w1.heap.size := (hown1.lt _ rfl).2
  go_loopw [3, 13] (fun l i wr => ∃ k : Nat, k ≤ ss.length ∧ i = .int .i64 k ∧ l = .slice (some ⟨w.heap.size, 0, none⟩) k (Maps.size D) ∧ wr.ownsRow w.heap.size 32 2 (.slice (some ⟨w.heap.size, 0, none⟩) k (Maps.size D)) k (valCells D (S.take k)) ∧ Kept (· = w.heap.size) w2 wr) (fun _ i _ => ss.length - (intOf i).toNat)
  case atStart => exact ⟨0, Nat.zero_le _, rfl, rfl, row_below hown1 hB2 (by simp [Value.ownBlock]; omega), Kept.refl _ _⟩
  case round =>
    obtain ⟨k, hk, rfl, rfl, hrowk, hkw⟩ := hrel
    have hM2 : MapIs wr M D := (hm1.below hB2 (by omega)).kept hkw (by omega)
    by_cases hlt : k < ss.length
    · obtain ⟨s, hs⟩ : ∃ s, S[k]? = some s := ⟨_, List.getElem?_eq_getElem (by omega)⟩
      obtain ⟨g, rfl, hg1, hg2, cs⟩ := hcs k s hs
      simp only [World.size_alloc] at hg1
      have ck := (hkw.cell (p := ⟨g, k, none⟩) hg2 (by simp; omega)).trans cs
      have hkey : keyOf Tryd.prog 9 (.string ⟨s.toArray⟩) = some (.string s) := by
        have := keyOf_string_mk (k := 9) Tryd.underlying9 (s := ⟨s.toArray⟩) (by simpa [ByteArray.size] using hSle s (List.mem_of_getElem? hs))
        simpa using this
      obtain ⟨c, hrun, hat, hwc⟩ := World.ownsMap.lookup_int (show wr.ownsMap Tryd.prog 9 (plainElem Tryd.prog 3) M (Maps.size D) D from hM2) strKeyed Tryd.underlying59 Tryd.underlying3 (zeroInt _) hkey
      have HV : Hid (valAt D s = c) := by simp [Hid, valAt, hat]
      have HT : Hid (valCells D (S.take (k + 1)) = valCells D (S.take k) ++ [encStr s, .int .i64 (valAt D s)]) := valCells_take D S k s hs
      clear hat hcs
      go_wp2_with (first
        | (at_builtin; refine wpList_append_fits _ rfl _ _ 25 rfl w.heap.size 32 i0 2 Tryd.underlying25 hi hz1 w.heap.size k (Maps.size D) _ rfl (hrowk.alloc _) ⟨wr.heap.size, 0, none⟩ 1 1 [.string ⟨s.toArray⟩, .int .i64 c] rfl rfl (cell_two_new _ _ _ _) (fun x hx => by simp at hx; rcases hx with rfl | rfl <;> rfl) (by omega) ?_; intro w3 hown3 hgrow3)
        | go_in)
      go_roundw
      case rel => exact ⟨k + 1, by omega, by go_num, rfl, by rw [HT.out, HV.out]; exact hown3, (hkw.trans (Kept.alloc _ _ _)).trans (Kept.grown hgrow3 (fun r e => by cases e; rfl))⟩
      case measure => simp [intOf]; omega
    · obtain rfl : k = ss.length := by omega
      go_wp2_with fail
      go_ret
      have hT : S.take ss.length = S := List.take_of_length_le (by rw [← HSD.out, List.length_mergeSort]; exact Nat.le_refl _)
      rw [hT, ← HSS.out] at hrowk
      refine ⟨ss, hS, ?_, ?_, ?_⟩
      · rw [← HSS.out]; rfl
      · rw [HSD.out]; exact hrowk
      · exact (hb1.trans (hB2.mono hs1)).trans (hkw.below (by have := hB2.size; omega) (fun k e => by omega))
end Go.Proofs.YtfanaanofjhlkaaDoor
