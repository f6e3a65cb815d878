/-
  The tasks of a tree, each ahead of its children, stand in the order of their IDs, none twice: for every program.
-/
import Derived.Test.YtfanaanofjhlkaaDoorWalk
namespace Go.Proofs.YtfanaanofjhlkaaDoor
open Go

/-- An ID as a list of bytes. -/
def idl (t : TaskS) : List UInt8 := t.id.data.toList

theorem idl_kid (id : ByteArray) (i : Nat) (k x : Int) : idl ⟨kidId id i, k, x⟩ = id.data.toList ++ [digit i] := by
  simp [idl, kidId, ByteArray.data_append]

theorem digit_lt {i j : Nat} (h : i < j) (hj : j < 100) : digit i < digit j := by
  unfold digit
  rw [UInt8.lt_iff_toNat_lt]
  simp only [UInt8.toNat_ofNat']
  omega

theorem lex_self (p r : List UInt8) (d : UInt8) : p < p ++ d :: r := by
  induction p with
  | nil => exact List.Lex.nil
  | cons a p ih => exact List.Lex.cons ih
theorem lex_split (p r s : List UInt8) {d e : UInt8} (h : d < e) : p ++ d :: r < p ++ e :: s := by
  induction p with
  | nil => exact List.Lex.rel h
  | cons a p ih => exact List.Lex.cons ih

theorem childrenFrom_order (id : ByteArray) (x : Int) : ∀ (l : List KidS) (i : Nat), i + l.length < 100 →
    (childrenFrom id x i l).Pairwise (fun c d => ∃ a b, a < b ∧ b < 100 ∧ c.id = kidId id a ∧ d.id = kidId id b) ∧ ∀ c ∈ childrenFrom id x i l, ∃ a, i ≤ a ∧ a < 100 ∧ c.id = kidId id a
  | [], _, _ => by simp [childrenFrom]
  | k :: r, i, h => by
    simp only [List.length_cons] at h
    obtain ⟨h1, h2⟩ := childrenFrom_order id x r (i + 1) (by omega)
    unfold childrenFrom
    split
    · refine ⟨List.pairwise_cons.2 ⟨fun d hd => ?_, h1⟩, fun c hc => ?_⟩
      · obtain ⟨b, hb, hb', he⟩ := h2 d hd
        exact ⟨i, b, by omega, hb', rfl, he⟩
      · rcases List.mem_cons.1 hc with rfl | hc
        · exact ⟨i, Nat.le_refl _, by omega, rfl⟩
        · obtain ⟨b, hb, hb', he⟩ := h2 c hc
          exact ⟨b, by omega, hb', he⟩
    · exact ⟨h1, fun c hc => by obtain ⟨b, hb, hb', he⟩ := h2 c hc; exact ⟨b, by omega, hb', he⟩⟩

theorem tree_order (ks : List KindS) (hk : ∀ k : Int, (kindAt ks k).kids.length ≤ 3) : ∀ (f : Nat) (t : TaskS),
    (tree ks f t).Pairwise (fun a b => idl a < idl b) ∧ ∀ u ∈ tree ks f t, ∃ r, idl u = idl t ++ r
  | 0, t => by simp [tree]
  | f + 1, t => by
    have ho := childrenFrom_order t.id t.arg (kindAt ks t.kind).kids 0 (by have := hk t.kind; omega)
    have hc : ∀ c ∈ children ks t, ∃ a, c.id = kidId t.id a := fun c h => let ⟨a, _, _, e⟩ := ho.2 c h; ⟨a, e⟩
    have hid : ∀ (c : TaskS) (a : Nat), c.id = kidId t.id a → idl c = idl t ++ [digit a] := fun c a e => by
      have := idl_kid t.id a c.kind c.arg
      rw [← e] at this; exact this
    have below : ∀ u ∈ (children ks t).flatMap (tree ks f), ∃ a r, idl u = idl t ++ digit a :: r := fun u hu => by
      obtain ⟨c, hcm, hu⟩ := List.mem_flatMap.1 hu
      obtain ⟨a, ha⟩ := hc c hcm
      obtain ⟨r, hr⟩ := (tree_order ks hk f c).2 u hu
      exact ⟨a, r, by rw [hr, hid c a ha]; simp⟩
    refine ⟨?_, fun u hu => ?_⟩
    · show (t :: (children ks t).flatMap (tree ks f)).Pairwise _
      refine List.pairwise_cons.2 ⟨fun u hu => ?_, ?_⟩
      · obtain ⟨a, r, e⟩ := below u hu
        rw [e]; exact lex_self _ _ _
      · refine List.pairwise_flatMap.2 ⟨fun c _ => (tree_order ks hk f c).1, ho.1.imp ?_⟩
        rintro c d ⟨a, b, hab, hb, ea, eb⟩ u hu v hv
        obtain ⟨r, hr⟩ := (tree_order ks hk f c).2 u hu
        obtain ⟨s, hs⟩ := (tree_order ks hk f d).2 v hv
        rw [hr, hs, hid c a ea, hid d b eb, List.append_assoc, List.append_assoc]
        exact lex_split _ _ _ (digit_lt hab hb)
    · rcases List.mem_cons.1 hu with rfl | hu
      · exact ⟨[], by simp⟩
      · obtain ⟨a, r, e⟩ := below u hu
        exact ⟨_, e⟩
end Go.Proofs.YtfanaanofjhlkaaDoor
