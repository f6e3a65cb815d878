/-
  Plain facts on the tasks of a program's tree, in the order of the tree: each one's parent stands ahead of it; one and all children make as many as there are tasks.
-/
import Derived.Test.YtfanaanofjhlkaaDoorAt
namespace Go.Proofs.YtfanaanofjhlkaaDoor
open Go

/-- Each one's place without its last digit is that of one of E or of one ahead of it. -/
def Closed : List TaskS → List TaskS → Prop
  | _, [] => True
  | E, u :: r => (∃ v ∈ E, idl v = (idl u).dropLast) ∧ Closed (E ++ [u]) r
theorem Closed.mono : ∀ {l E E' : List TaskS}, Closed E l → (∀ v ∈ E, v ∈ E') → Closed E' l
  | [], _, _, _, _ => trivial
  | u :: r, E, E', h, hs => ⟨h.1.imp fun v hv => ⟨hs v hv.1, hv.2⟩, h.2.mono fun v hv => by
      rcases List.mem_append.1 hv with hv | hv
      · exact List.mem_append.2 (.inl (hs v hv))
      · exact List.mem_append.2 (.inr hv)⟩
theorem Closed.append : ∀ {l l' E : List TaskS}, Closed E l → Closed (E ++ l) l' → Closed E (l ++ l')
  | [], l', E, _, h' => by simpa using h'
  | u :: r, l', E, h, h' => ⟨h.1, h.2.append (by simpa using h')⟩
theorem closed_tree {ks : List KindS} (hk : ∀ k : Int, (kindAt ks k).kids.length ≤ 3) : ∀ (f : Nat) (t : TaskS) (E : List TaskS), t ∈ E → Closed E ((tree ks f t).tail)
  | 0, t, E, _ => by simp [tree, Closed]
  | f + 1, t, E, ht => by
    show Closed E ((children ks t).flatMap (tree ks f))
    have hc : ∀ c ∈ children ks t, (idl c).dropLast = idl t := fun c h => by
      obtain ⟨m, d, _, rfl, _⟩ := childrenFrom_locate h
      rw [idl_kid]; simp [idl]
    revert hc
    generalize children ks t = L
    intro hc
    induction L generalizing E with
    | nil => simp [Closed]
    | cons c r ih =>
      rw [List.flatMap_cons]
      have hcs : tree ks f c = c :: (tree ks f c).tail := by cases f <;> rfl
      refine Closed.append ?_ (ih _ (List.mem_append.2 (.inl ht)) (fun c' h => hc c' (by simp [h])))
      rw [hcs]
      exact ⟨⟨t, ht, (hc c (by simp)).symm⟩, closed_tree hk f c _ (by simp)⟩

theorem Closed.at : ∀ {l E : List TaskS}, Closed E l → ∀ (i : Nat) (u : TaskS), l[i]? = some u → ∃ v ∈ E ++ l.take i, idl v = (idl u).dropLast
  | [], _, _, i, u, h => by simp at h
  | w :: r, E, h, 0, u, hu => by simp at hu; subst hu; simpa using h.1
  | w :: r, E, h, i + 1, u, hu => by
    obtain ⟨v, hv, e⟩ := h.2.at i u (by simpa using hu)
    exact ⟨v, by simpa using hv, e⟩

theorem all_parent {ks : List KindS} {kind arg : Int} (hp : progB ks kind arg = true) (i : Nat) (u : TaskS) (hi : 0 < i) (hu : (allTasks ks kind arg)[i]? = some u) : ∃ k v, k < i ∧ (allTasks ks kind arg)[k]? = some v ∧ idl v = (idl u).dropLast := by
  have hc := closed_tree (kids_le ks kind arg hp) 12 ⟨⟨#[]⟩, kind, arg⟩ [⟨⟨#[]⟩, kind, arg⟩] (by simp)
  have hall : allTasks ks kind arg = ⟨⟨#[]⟩, kind, arg⟩ :: (tree ks 12 ⟨⟨#[]⟩, kind, arg⟩).tail := rfl
  obtain ⟨j, rfl⟩ : ∃ j, i = j + 1 := ⟨i - 1, by omega⟩
  rw [hall] at hu
  obtain ⟨v, hv, e⟩ := hc.at j u (by simpa using hu)
  have hv' : v ∈ (allTasks ks kind arg).take (j + 1) := by rw [hall]; simpa using hv
  obtain ⟨k, hk, hkv⟩ := List.mem_iff_getElem.1 hv'
  rw [List.getElem_take] at hkv
  have hkj : k < j + 1 := by rw [List.length_take] at hk; omega
  exact ⟨k, v, hkj, by rw [List.getElem?_eq_some_iff]; exact ⟨by rw [List.length_take] at hk; omega, hkv⟩, e⟩

/-- How many children the tasks of a list have together. -/
def kidsOf (ks : List KindS) (l : List TaskS) : Nat := (l.map fun t => (children ks t).length).sum
theorem kidsOf_append (ks : List KindS) (l l' : List TaskS) : kidsOf ks (l ++ l') = kidsOf ks l + kidsOf ks l' := by simp [kidsOf]
theorem kidsOf_take (ks : List KindS) (l : List TaskS) (m : Nat) (t : TaskS) (h : l[m]? = some t) : kidsOf ks (l.take (m + 1)) = kidsOf ks (l.take m) + (children ks t).length := by
  have hk := (List.getElem?_eq_some_iff.1 h).1
  have he := (List.getElem?_eq_some_iff.1 h).2
  rw [List.take_succ_eq_append_getElem hk, he]
  simp [kidsOf]
theorem tree_total {ks : List KindS} {kind arg : Int} (hp : progB ks kind arg = true) : ∀ (f : Nat) (t : TaskS), Good ks t → t.arg ≤ f → 1 + kidsOf ks (tree ks f t) = (tree ks f t).length
  | 0, t, hG, hf => by
    have he : children ks t = [] := by
      refine List.eq_nil_iff_forall_not_mem.2 fun c hc => ?_
      have h := good_child hp hG hc
      have h2 := h.1.2.2.1
      omega
    simp [tree, kidsOf, he]
  | f + 1, t, hG, hf => by
    have hch : ∀ c ∈ children ks t, 1 + kidsOf ks (tree ks f c) = (tree ks f c).length := fun c hc =>
      tree_total hp f c (good_child hp hG hc).1 (by have := (good_child hp hG hc).2; omega)
    have key : ∀ L : List TaskS, (∀ c ∈ L, 1 + kidsOf ks (tree ks f c) = (tree ks f c).length) → L.length + kidsOf ks (L.flatMap (tree ks f)) = (L.flatMap (tree ks f)).length := by
      intro L
      induction L with
      | nil => intro _; rfl
      | cons c r ih =>
        intro h
        have h1 := h c (by simp)
        have h2 := ih (fun c' h' => h c' (by simp [h']))
        rw [List.flatMap_cons, kidsOf_append, List.length_append, List.length_cons]
        omega
    have h3 := key _ hch
    show 1 + kidsOf ks (t :: (children ks t).flatMap (tree ks f)) = (t :: (children ks t).flatMap (tree ks f)).length
    have h4 : kidsOf ks (t :: (children ks t).flatMap (tree ks f)) = (children ks t).length + kidsOf ks ((children ks t).flatMap (tree ks f)) := by simp [kidsOf]
    rw [h4, List.length_cons]
    omega
end Go.Proofs.YtfanaanofjhlkaaDoor
