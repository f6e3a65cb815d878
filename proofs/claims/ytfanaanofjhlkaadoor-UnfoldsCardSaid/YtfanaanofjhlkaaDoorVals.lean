/-
  What a map of values holds after a list of tasks was put in, and that its keys in order, with what stands under each, are the tasks' values in the order of the tree.
-/
import Derived.Test.YtfanaanofjhlkaaDoorOrder
import Derived.Test.YtfanaanofjhlkaaDoorList
import Derived.Test.YtfanaanofjhlkaaDoorTasks
namespace Go.Proofs.YtfanaanofjhlkaaDoor
open Go Go.RowKit Go.Maps Go.Sort

/-- The map of the values of a list of tasks. -/
def mapOf (ks : List KindS) (l : List TaskS) : DataW Unit := l.foldl (fun D t => D.put (keyL t.id) (elemD (valueOf ks t))) (.map [])
theorem mapOf_snoc (ks : List KindS) (l : List TaskS) (t : TaskS) : mapOf ks (l ++ [t]) = (mapOf ks l).put (keyL t.id) (elemD (valueOf ks t)) := by simp [mapOf]

theorem keyL_inj {a b : TaskS} (h : keyL a.id = keyL b.id) : idl a = idl b := by simpa [keyL, idl] using h
theorem keyL_lit (id : ByteArray) : WideAt.IsKeyLit (keyL id) := trivial

theorem mapOf_facts (ks : List KindS) : ∀ n (l : List TaskS), l.length = n →
    Tidy (mapOf ks l) ∧ (∀ s, has (mapOf ks l) (.string s) = true ↔ ∃ t ∈ l, idl t = s) ∧ (l.Pairwise (fun a b => idl a ≠ idl b) → Maps.size (mapOf ks l) = l.length ∧ ∀ t ∈ l, ∀ z, (mapOf ks l).atKey (keyL t.id) z = elemD (valueOf ks t))
  | 0, l, h => by
    obtain rfl := List.length_eq_zero_iff.1 h
    exact ⟨tidy_empty, fun s => by simp [mapOf, has_eq], fun _ => ⟨rfl, fun t ht => by cases ht⟩⟩
  | n + 1, l, h => by
    obtain ⟨l', t, rfl⟩ : ∃ l' t, l = l' ++ [t] := ⟨l.dropLast, l.getLast (by intro e; rw [e] at h; cases h), (List.dropLast_concat_getLast _).symm⟩
    simp at h
    obtain ⟨h1, h2, h3⟩ := mapOf_facts ks n l' h
    rw [mapOf_snoc]
    refine ⟨h1.put (keyL_lit _) _, fun s => ?_, fun hp => ?_⟩
    · by_cases hs : idl t = s
      · subst hs
        have := has_put_same h1.isMap (keyL_lit t.id) (elemD (valueOf ks t))
        exact ⟨fun _ => ⟨t, by simp, rfl⟩, fun _ => this⟩
      · rw [has_put_other (k := keyL t.id) (k' := .string s) (by intro e; simp [keyL] at e; exact hs e.symm), h2 s]
        constructor
        · rintro ⟨u, hu, e⟩; exact ⟨u, by simp [hu], e⟩
        · rintro ⟨u, hu, e⟩
          rcases List.mem_append.1 hu with hu | hu
          · exact ⟨u, hu, e⟩
          · simp at hu; subst hu; exact absurd e hs
    · obtain ⟨hp1, _, hp2⟩ := List.pairwise_append.1 hp
      obtain ⟨h4, h5⟩ := h3 hp1
      have hno : has (mapOf ks l') (keyL t.id) = false := by
        cases hh : has (mapOf ks l') (keyL t.id)
        · rfl
        · obtain ⟨u, hu, e⟩ := (h2 _).1 hh
          exact absurd e (hp2 u hu t (by simp))
      refine ⟨by rw [size_put h1, hno]; simp [h4], fun u hu z => ?_⟩
      rcases List.mem_append.1 hu with hu | hu
      · rw [atKey_put_other (by intro e; exact hp2 u hu t (by simp) (keyL_inj e)), h5 u hu]
      · simp at hu; subst hu; exact atKey_put_same h1.isMap (keyL_lit _) _ _

theorem mem_insert_or {x p : Lit × DataW Unit} : ∀ {l : List (Lit × DataW Unit)}, p ∈ DataW.insert x l → p = x ∨ p ∈ l
  | [], h => by simp [DataW.insert] at h; exact .inl h
  | y :: r, h => by
    unfold DataW.insert at h
    split at h
    · exact List.mem_cons.1 h
    · rcases List.mem_cons.1 h with rfl | h
      · exact .inr (by simp)
      · exact (mem_insert_or h).imp id (fun h => by simp [h])

theorem mapOf_keys (ks : List KindS) : ∀ n (l : List TaskS), l.length = n → ∃ es, mapOf ks l = .map es ∧ ∀ p ∈ es, ∃ x, p.1 = .string x
  | 0, l, h => by
    obtain rfl := List.length_eq_zero_iff.1 h
    exact ⟨[], rfl, fun p hp => by cases hp⟩
  | n + 1, l, h => by
    obtain ⟨l', t, rfl⟩ : ∃ l' t, l = l' ++ [t] := ⟨l.dropLast, l.getLast (by intro e; rw [e] at h; cases h), (List.dropLast_concat_getLast _).symm⟩
    simp at h
    obtain ⟨es, he, hk⟩ := mapOf_keys ks n l' h
    rw [mapOf_snoc, he]
    refine ⟨_, rfl, fun p hp => ?_⟩
    rcases mem_insert_or hp with rfl | hp
    · exact ⟨_, rfl⟩
    · exact hk p (List.mem_filter.1 hp).1

theorem mapOf_size_le (ks : List KindS) (l : List TaskS) (t : TaskS) : Maps.size (mapOf ks (l ++ [t])) ≤ Maps.size (mapOf ks l) + 1 := by
  rw [mapOf_snoc, size_put (mapOf_facts ks _ l rfl).1]; split <;> omega

/-- The values of a list of tasks, as cells. -/
def taskCells (ks : List KindS) (l : List TaskS) : List Value := l.flatMap fun t => [.string t.id, .int .i64 (valueOf ks t)]

theorem flatMap_same {α β : Type} {f g : α → List β} : ∀ {l : List α}, (∀ t ∈ l, f t = g t) → l.flatMap f = l.flatMap g
  | [], _ => rfl
  | a :: r, h => by rw [List.flatMap_cons, List.flatMap_cons, h a (by simp), flatMap_same fun t ht => h t (by simp [ht])]

theorem sorted_keys (ks : List KindS) (l : List TaskS) (hp : l.Pairwise (fun a b => idl a < idl b)) {ss : List (List UInt8)} (hs : ss.Perm (strKeys (mapOf ks l))) :
    ss.length = l.length ∧ valCells (mapOf ks l) (ss.mergeSort (fun x y => decide (x ≤ y))) = taskCells ks l := by
  have hne : l.Pairwise (fun a b => idl a ≠ idl b) := hp.imp fun h e => by rw [e] at h; exact List.lt_irrefl _ h
  obtain ⟨h1, h2, h3⟩ := mapOf_facts ks _ l rfl
  obtain ⟨h4, h5⟩ := h3 hne
  obtain ⟨es, he, hes⟩ := h1
  have hk : ∀ p ∈ es, ∃ x, p.1 = .string x := by
    obtain ⟨es', he', hk⟩ := mapOf_keys ks _ l rfl
    rw [he] at he'; cases he'; exact hk
  have hperm : (l.map idl).Perm (strKeys (mapOf ks l)) := by
    rw [he]
    refine perm_strKeys hes hk (List.pairwise_map.2 hne) fun x => ?_
    rw [← he, h2 x]; simp
  have hsort : ss.mergeSort (fun x y => decide (x ≤ y)) = l.map idl := by
    have e1 := mergeSort_of_perm (hs.trans hperm.symm)
    refine e1.trans ?_
    refine List.mergeSort_of_pairwise ?_
    exact List.pairwise_map.2 (hp.imp fun h => by simpa [leB] using List.le_of_lt h)
  refine ⟨by rw [(hs.trans hperm.symm).length_eq]; simp, ?_⟩
  rw [hsort]
  unfold valCells taskCells
  rw [List.flatMap_map]
  refine flatMap_same fun t ht => ?_
  have : valAt (mapOf ks l) (idl t) = valueOf ks t := by
    unfold valAt
    rw [show (Lit.string (idl t)) = keyL t.id from rfl, h5 t ht]; rfl
  rw [this]
  simp [encStr, idl]

theorem kids_le (ks : List KindS) (kind arg : Int) (hp : progB ks kind arg = true) (k : Int) : (kindAt ks k).kids.length ≤ 3 := by
  unfold kindAt
  cases h : ks[k.toNat]? with
  | none => simp
  | some c =>
    simp [progB] at hp
    have := hp.1.1.2 c (List.mem_of_getElem? h)
    simp [kindB] at this
    exact this.1.2
theorem all_order {ks : List KindS} {kind arg : Int} (hp : progB ks kind arg = true) : (allTasks ks kind arg).Pairwise (fun a b => idl a < idl b) := (tree_order ks (kids_le ks kind arg hp) _ _).1
theorem tree_good {ks : List KindS} {kind arg : Int} (hp : progB ks kind arg = true) : ∀ (f : Nat) (t : TaskS), Good ks t → ∀ u ∈ tree ks f t, Good ks u
  | 0, t, h, u, hu => by simp [tree] at hu; subst hu; exact h
  | f + 1, t, h, u, hu => by
    rcases List.mem_cons.1 hu with rfl | hu
    · exact h
    · obtain ⟨c, hc, hu⟩ := List.mem_flatMap.1 hu
      exact tree_good hp f c (good_child hp h hc).1 u hu

/-- What Unfold answers, as plain data: the error's number, the tasks whose values are told. -/
def unfoldS (ks : List KindS) (kind arg : Int) : Int × List TaskS :=
  if progB ks kind arg = true then (if (allTasks ks kind arg).length ≤ 200 then (0, allTasks ks kind arg) else (4, [])) else (3, [])

end Go.Proofs.YtfanaanofjhlkaaDoor
