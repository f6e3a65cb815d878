/-
  gleankeep.pick, kids, size and at, for whatever program lies in memory: a number below n; how many children a task has; how many tasks a tree has, up to a limit; the task at a place of the tree.
-/
import Derived.Test.YtfanaanofjhlkaaDoorPickN
namespace Go.Proofs.YtfanaanofjhlkaaDoor
open Go Go.RowKit

def childCount (x : Int) (l : List KidS) : Nat := (l.filter (fun d => decide (d.less ≤ x))).length
theorem childCount_take (x : Int) (l : List KidS) (m : Nat) (d : KidS) (h : l[m]? = some d) : childCount x (l.take (m + 1)) = childCount x (l.take m) + if d.less ≤ x then 1 else 0 := by
  have hk := (List.getElem?_eq_some_iff.1 h).1
  have he := (List.getElem?_eq_some_iff.1 h).2
  rw [List.take_succ_eq_append_getElem hk, he]
  unfold childCount
  rw [List.filter_append]
  by_cases hd : d.less ≤ x <;> simp [hd]
theorem childCount_le (x : Int) (l : List KidS) : childCount x l ≤ l.length := List.length_filter_le _ _
theorem childrenFrom_length (id : ByteArray) (x : Int) : ∀ (l : List KidS) (i : Nat), (childrenFrom id x i l).length = childCount x l
  | [], _ => rfl
  | d :: r, i => by
    unfold childrenFrom
    have := childrenFrom_length id x r (i + 1)
    unfold childCount at this ⊢
    by_cases hd : d.less ≤ x <;> simp [hd, this]

set_option maxHeartbeats 1000000 in
theorem kids_calls (ok : Nat → Prop) (a : Option Addr) (cap : Nat) (kind arg : Int) (ks : List KindS) (t : TaskS) (w : World) (hk : KindsAt ok w (.slice a ks.length cap) ks) (hprog : progB ks kind arg = true) (hG : Good ks t) :
    Calls Tryd.prog 16 #[.agg #[.slice a ks.length cap, .int .i64 kind, .int .i64 arg], taskV t] w fun e w' => e = .returned (.int .i64 (children ks t).length) ∧ Below w.heap.size w w' := by
  obtain ⟨id, k, x⟩ := t
  obtain ⟨g0, g1, g2, g3⟩ := hG
  simp only at g0 g1 g2 g3
  obtain ⟨j, c, rfl, hcc, hkc, hkl, hkids, -, -⟩ := kind_facts hprog g0 g1
  have hlen5 : ks.length ≤ 5 := by simp [progB, rangeB] at hprog; omega
  obtain ⟨a', cap', hs, hc⟩ := hk
  simp only [Value.slice.injEq] at hs
  obtain ⟨rfl, -, rfl⟩ := hs
  obtain ⟨b, o, v, rfl, hok, hbw, c0, c1, c2, a', cap', rfl, h'⟩ := hc j c hcc
  have HC : Hid ((children ks ⟨id, (j : Int), x⟩).length = childCount x c.kids) := by show _ = _; unfold children; rw [childrenFrom_length, hkc]
  clear hprog hc hkc
  have d2 := fun o1 o2 => cell_alloc o2 (cell_alloc o1 c2)
  unfold taskV
  go_enter Tryd.func16, Tryd.ntmps16
  go_wp2
  go_loopw [5, 7] (fun n i wr => ∃ m : Nat, m ≤ c.kids.length ∧ i = .int .i64 m ∧ n = .int .i64 (childCount x (c.kids.take m)) ∧ Below w.heap.size w wr ∧ BoxAt wr (w.heap.size + 1) 53 #[.string id, .int .i64 j, .int .i64 x]) (fun _ i _ => c.kids.length - (intOf i).toNat)
  case atStart =>
    refine ⟨0, Nat.zero_le _, rfl, rfl, ((Below.refl _ _).alloc (Nat.le_refl _) _).alloc (by simp) _, ?_⟩
    have := BoxAt.new (w.alloc (Obj.cells #[Value.slice (some { block := b, off := o }) ks.length cap, Value.int IntKind.i64 kind, Value.int IntKind.i64 arg] 24)) 53 #[.string id, .int .i64 j, .int .i64 x]
    simpa only [World.size_alloc] using this
  case round =>
    obtain ⟨m, hm, rfl, rfl, hb, hbox⟩ := hrel
    have HB : Hid (BoxAt wr (w.heap.size + 1) 53 #[.string id, .int .i64 j, .int .i64 x]) := hbox
    have u2 := hbox.cell (o := 2) rfl
    clear hbox
    have hcl := childCount_le x (c.kids.take m)
    have hcl2 : (c.kids.take m).length ≤ m := List.length_take_le _ _
    by_cases hlt : m < c.kids.length
    · obtain ⟨d, hd⟩ : ∃ d, c.kids[m]? = some d := ⟨_, List.getElem?_eq_getElem hlt⟩
      obtain ⟨b', o', rfl, hok', hbw', d0, d1⟩ := h' m d hd
      have f1 := (hb.cell (p := ⟨b', o' + m * 2 + 1, none⟩) hbw').trans d1
      have HT : Hid (childCount x (c.kids.take (m + 1)) = childCount x (c.kids.take m) + if d.less ≤ x then 1 else 0) := childCount_take x c.kids m d hd
      by_cases hless : d.less ≤ x
      · go_wp2
        go_quiet (fail)
        go_wp2
        go_roundw
        case rel => exact ⟨m + 1, by omega, by go_num, by rw [HT.out, if_pos hless]; go_num, below_drewN hb _, HB.out.drewN _⟩
        case measure => simp [intOf]; omega
      · go_wp2
        go_quiet (fail)
        go_wp2
        go_roundw
        case rel => exact ⟨m + 1, by omega, by go_num, by rw [HT.out, if_neg (by omega)]; rfl, below_drewN hb _, HB.out.drewN _⟩
        case measure => simp [intOf]; omega
    · go_wp2
      go_ret
      exact ⟨by rw [HC.out, List.take_of_length_le (by omega)]; rfl, hb⟩
end Go.Proofs.YtfanaanofjhlkaaDoor
