/-
  Plain facts: going through a program's tree from a queue meets the same tasks as going through it in depth; sorting them in one by one gives the list by IDs.
-/
import Derived.Test.YtfanaanofjhlkaaDoorRefPut
import Derived.Test.YtfanaanofjhlkaaDoorRefKids
namespace Go.Proofs.YtfanaanofjhlkaaDoor
open Go

theorem tree_more {ks : List KindS} {kind arg : Int} (hp : progB ks kind arg = true) : ∀ (f : Nat) (t : TaskS), Good ks t → t.arg ≤ f → tree ks (f + 1) t = tree ks f t
  | 0, t, hG, hf => by
    have he : children ks t = [] := by
      refine List.eq_nil_iff_forall_not_mem.2 fun c hc => ?_
      have h := good_child hp hG hc
      have h2 := h.1.2.2.1
      omega
    simp [tree, he]
  | f + 1, t, hG, hf => by
    show t :: (children ks t).flatMap (tree ks (f + 1)) = t :: (children ks t).flatMap (tree ks f)
    rw [flatMap_same fun c hc => tree_more hp f c (good_child hp hG hc).1 (by have := (good_child hp hG hc).2; omega)]

/-- How a queue stands: what was gone through, what waits. -/
def Queue (ks : List KindS) (root : TaskS) (P Q : List TaskS) : Prop :=
  (P ++ Q.flatMap (tree ks 12)).Perm (tree ks 12 root) ∧ (∀ t ∈ P ++ Q, Good ks t ∧ t.arg ≤ 12)
theorem Queue.start {ks : List KindS} {root : TaskS} (hG : Good ks root) (h : root.arg ≤ 12) : Queue ks root [] [root] := by
  refine ⟨by simp, ?_⟩
  intro t ht
  simp at ht
  subst ht
  exact ⟨hG, h⟩
theorem Queue.step {ks : List KindS} {kind arg : Int} (hp : progB ks kind arg = true) {root t : TaskS} {P Q : List TaskS} (h : Queue ks root P (t :: Q)) : Queue ks root (P ++ [t]) (Q ++ children ks t) := by
  obtain ⟨h1, h2⟩ := h
  obtain ⟨hG, h12⟩ := h2 t (by simp)
  refine ⟨?_, ?_⟩
  · refine List.Perm.trans ?_ h1
    have e : tree ks 12 t = t :: (children ks t).flatMap (tree ks 12) := by
      show t :: (children ks t).flatMap (tree ks 11) = _
      rw [flatMap_same fun c hc => (tree_more hp 11 c (good_child hp hG hc).1 (by have := (good_child hp hG hc).2; omega)).symm]
    rw [List.flatMap_append, List.flatMap_cons, e, List.append_assoc]
    refine List.Perm.append_left P ?_
    simp only [List.cons_append, List.nil_append]
    exact List.Perm.cons _ List.perm_append_comm
  · intro u hu
    simp only [List.mem_append, List.mem_cons, List.not_mem_nil, or_false] at hu
    rcases hu with (hu | rfl) | (hu | hu)
    · exact h2 u (by simp [hu])
    · exact ⟨hG, h12⟩
    · exact h2 u (by simp [hu])
    · exact ⟨(good_child hp hG hu).1, by have := (good_child hp hG hu).2; omega⟩
theorem Queue.more {ks : List KindS} {root t : TaskS} {P Q : List TaskS} (h : Queue ks root P (t :: Q)) : P.length + 1 ≤ (tree ks 12 root).length := by
  rw [← h.1.length_eq, List.flatMap_cons, List.length_append, List.length_append]
  have : 1 ≤ (tree ks 12 t).length := by show 1 ≤ (t :: _).length; simp
  omega
theorem Queue.end {ks : List KindS} {root : TaskS} {P : List TaskS} (h : Queue ks root P []) : P.Perm (tree ks 12 root) := by simpa using h.1

/-- The list's IDs rise, or stay. -/
def ByIds (l : List (ByteArray × Int)) : Prop := l.Pairwise (fun a b => ¬ b.1.data.toList < a.1.data.toList)
theorem less_iff (a b : ByteArray) : Op.bytesLess a.toList b.toList = true ↔ a.data.toList < b.data.toList := by
  rw [Go.Proofs.bytesLess_eq, ByteArray.toList_eq, ByteArray.toList_eq]; simp
theorem putS_perm : ∀ (l : List (ByteArray × Int)) (x : ByteArray × Int), (putS l x).Perm (x :: l)
  | [], x => .refl _
  | y :: r, x => by
    unfold putS
    split
    · exact .refl _
    · exact ((putS_perm r x).cons y).trans (.swap x y r)
theorem putS_byIds : ∀ (l : List (ByteArray × Int)) (x : ByteArray × Int), ByIds l → ByIds (putS l x)
  | [], x, _ => by simp [putS, ByIds]
  | y :: r, x, h => by
    obtain ⟨h1, h2⟩ := List.pairwise_cons.1 h
    unfold putS
    split
    · rename_i hlt
      rw [less_iff] at hlt
      refine List.pairwise_cons.2 ⟨fun z hz => ?_, h⟩
      rcases List.mem_cons.1 hz with rfl | hz
      · exact fun h' => List.lt_irrefl _ (List.lt_trans hlt h')
      · exact fun h' => h1 z hz (List.lt_trans h' hlt)
    · rename_i hlt
      rw [less_iff] at hlt
      refine List.pairwise_cons.2 ⟨fun z hz => ?_, putS_byIds r x h2⟩
      rcases List.mem_cons.1 ((putS_perm r x).mem_iff.1 hz) with rfl | hz
      · exact hlt
      · exact h1 z hz
/-- A list by IDs that holds what a list whose IDs rise holds is that list. -/
theorem byIds_eq : ∀ {l m : List (ByteArray × Int)}, ByIds l → m.Pairwise (fun a b => a.1.data.toList < b.1.data.toList) → l.Perm m → l = m
  | [], m, _, _, hp => by rw [hp.nil_eq]
  | x :: l, [], _, _, hp => by simpa using hp.length_eq
  | x :: l, y :: m, hl, hm, hp => by
    obtain ⟨l1, l2⟩ := List.pairwise_cons.1 hl
    obtain ⟨m1, m2⟩ := List.pairwise_cons.1 hm
    have hxy : x = y := by
      rcases List.mem_cons.1 (hp.mem_iff.1 (List.mem_cons_self (a := x) (l := l))) with h | h
      · exact h
      · rcases List.mem_cons.1 (hp.mem_iff.2 (List.mem_cons_self (a := y) (l := m))) with h' | h'
        · exact h'.symm
        · exact absurd (m1 x h) (l1 y h')
    subst hxy
    rw [byIds_eq l2 m2 ((List.perm_cons x).1 hp)]

/-- Sorted in one by one. -/
def sortedIn (ks : List KindS) (P : List TaskS) : List (ByteArray × Int) := P.foldl (fun l t => putS l (t.id, valueOf ks t)) []
theorem sortedIn_snoc (ks : List KindS) (P : List TaskS) (t : TaskS) : sortedIn ks (P ++ [t]) = putS (sortedIn ks P) (t.id, valueOf ks t) := by simp [sortedIn]
theorem sortedIn_facts (ks : List KindS) : ∀ n (P : List TaskS), P.length = n → ByIds (sortedIn ks P) ∧ (sortedIn ks P).Perm (pairsOf ks P)
  | 0, P, h => by
    obtain rfl := List.length_eq_zero_iff.1 h
    exact ⟨List.Pairwise.nil, .refl _⟩
  | n + 1, P, h => by
    obtain ⟨P', t, rfl⟩ : ∃ P' t, P = P' ++ [t] := ⟨P.dropLast, P.getLast (by intro e; rw [e] at h; cases h), (List.dropLast_concat_getLast _).symm⟩
    simp at h
    obtain ⟨h1, h2⟩ := sortedIn_facts ks n P' h
    rw [sortedIn_snoc]
    refine ⟨putS_byIds _ _ h1, (putS_perm _ _).trans ?_⟩
    have e : pairsOf ks (P' ++ [t]) = pairsOf ks P' ++ [(t.id, valueOf ks t)] := by simp [pairsOf]
    rw [e]
    exact (h2.cons _).trans (List.perm_append_singleton _ _).symm
theorem sortedIn_length (ks : List KindS) (P : List TaskS) : (sortedIn ks P).length = P.length := by
  rw [(sortedIn_facts ks _ P rfl).2.length_eq, pairsOf_length]
theorem sortedIn_all {ks : List KindS} {kind arg : Int} (hp : progB ks kind arg = true) {P : List TaskS} (h : P.Perm (allTasks ks kind arg)) : sortedIn ks P = pairsOf ks (allTasks ks kind arg) := by
  obtain ⟨h1, h2⟩ := sortedIn_facts ks _ P rfl
  refine byIds_eq h1 ?_ (h2.trans (h.map _))
  exact List.pairwise_map.2 (all_order hp)
end Go.Proofs.YtfanaanofjhlkaaDoor
