/-
  The iterator that tree.Tasks hands back tells all tasks of a program, each ahead of its children, for whatever body of whatever loop.
-/
import Derived.Test.YtfanaanofjhlkaaDoorWalk
namespace Go.Proofs.YtfanaanofjhlkaaDoor
open Go Go.RowKit Go.Shelf

/-- All tasks of a program. -/
def allTasks (ks : List KindS) (kind arg : Int) : List TaskS := tree ks 12 ⟨⟨#[]⟩, kind, arg⟩

abbrev GoodT (ks : List KindS) := { t : TaskS // Good ks t }

set_option maxHeartbeats 1000000 in
set_option maxRecDepth 100000 in
theorem tasks1_seq (n : Nat) (Bp : Nat) (X ok : Nat → Prop) (a : Option Addr) (cap : Nat) (kind arg : Int) (ks : List KindS) (W : World)
    (hp : BoxAt W Bp 24 #[.slice a ks.length cap, .int .i64 kind, .int .i64 arg])
    (hk : KindsAt ok W (.slice a ks.length cap) ks) (hX : ∀ k, X k → k < W.heap.size) (hok : ∀ b, ok b → ¬ X b) (hprog : progB ks kind arg = true) :
    SeqX Fence.wide n Tryd.prog 34 #[.pointer (some ⟨Bp, 0, none⟩)] (fun t : GoodT ks => #[taskV t.1]) X
      (fun xs => xs.map Subtype.val = allTasks ks kind arg) (fun pre => pre.map Subtype.val <+: allTasks ks kind arg) W := by
  intro l J Jx hJ hJx hY h0
  have hG : Good ks ⟨⟨#[]⟩, kind, arg⟩ := by
    simp [progB, numB, rangeB] at hprog
    exact ⟨hprog.1.2.1, by dsimp only; omega, hprog.2.1, by simp [ByteArray.size]; omega⟩
  have hG4 := hG.2.2.2
  have hw := walk_says (l := l) (B := W.heap.size) (a := a) (cap := cap) (ok := fun b => ok b ∧ b < W.heap.size) (J := fun pre V => ∃ xs : List (GoodT ks), xs.map Subtype.val = pre ∧ J xs V) (Jx := fun pre V => ∃ xs : List (GoodT ks), xs.map Subtype.val = pre ∧ Jx xs V) hprog hX (fun b h => hok b h.1)
    (fun s A A' h hb => h.imp fun xs h => ⟨h.1, hJ _ _ _ h.2 hb⟩) (fun s A A' h hb => h.imp fun xs h => ⟨h.1, hJx _ _ _ h.2 hb⟩)
    (fun m pre t W1 hg hj hs => by
      obtain ⟨xs, rfl, hj⟩ := hj
      obtain ⟨fn, tmps, assign, body, hy, hR⟩ := hY xs ⟨t, hg⟩ W1 hj hs
      refine ⟨fn, tmps, assign, body, hy, hR.1, fun c cs _ => ?_⟩
      obtain ⟨e, w', hr, hs⟩ := hR.2 c cs (room_wide _)
      exact ⟨e, w', hr.imp (fun h => ⟨h.1, ⟨_, by simp, h.2.1⟩, h.2.2⟩) (fun h => ⟨h.1, ⟨_, by simp, h.2.1⟩, h.2.2⟩), hs⟩) 12 ⟨⟨#[]⟩, kind, arg⟩ hG (by have := hG.2.2.2; simp [ByteArray.size] at this; omega)
  have HW : Hid (∀ V, Below W.heap.size W V → Calls Tryd.prog 35 #[.agg #[.slice a ks.length cap, .int .i64 kind, .int .i64 arg], .agg #[.string ⟨#[]⟩, .int .i64 kind, .int .i64 arg], .func (.yield l) #[] #[]] V fun e W' => ∃ b, e = .returned (.bool b) ∧
      ((∃ xs : List (GoodT ks), xs.map Subtype.val = allTasks ks kind arg ∧ J xs W') ∨ (∃ pre : List (GoodT ks), pre.map Subtype.val <+: allTasks ks kind arg ∧ Jx pre W'))) := fun V hV => by
    refine (callsIn_wide (n := n)).1 ((hw n [] V (hk.below.kept (Kept.of_below (X := fun k => W.heap.size ≤ k) hV (fun _ _ h => h)) (fun b h => by omega)) ⟨[], rfl, hJ _ _ _ h0 hV⟩ hV.size).mono ?_)
    rintro e W' (⟨rfl, ⟨xs, hx, hj⟩, -⟩ | ⟨rfl, q, hq, ⟨xs, hx, hj⟩, -⟩)
    · exact ⟨true, rfl, .inl ⟨xs, by simpa [allTasks] using hx, hj⟩⟩
    · exact ⟨false, rfl, .inr ⟨xs, by rw [hx]; simpa [allTasks] using hq, hj⟩⟩
  have p0 := hp.cell (o := 0) rfl
  have p1 := hp.cell (o := 1) rfl
  have p2 := hp.cell (o := 2) rfl
  have hlt := hp.lt
  have HF : Hid (∀ V, Below W.heap.size W V → Calls Tryd.prog 36 #[.agg #[.slice a ks.length cap, .int .i64 kind, .int .i64 arg]] V fun e w' => e = .returned (.agg #[.string ⟨#[]⟩, .int .i64 kind, .int .i64 arg]) ∧ Below W.heap.size W w' ∧
      w'.cell? ⟨Bp, 0, none⟩ = some (.slice a ks.length cap) ∧ w'.cell? ⟨Bp, 1, none⟩ = some (.int .i64 kind) ∧ w'.cell? ⟨Bp, 2, none⟩ = some (.int .i64 arg)) := fun V hV => by
    refine (first_calls a ks.length cap kind arg V).mono ?_
    rintro e w' ⟨rfl, hb⟩
    have hb' := hV.trans (hb.mono hV.size)
    exact ⟨rfl, hb', (hb'.cell (p := ⟨Bp, 0, none⟩) hlt).trans p0, (hb'.cell (p := ⟨Bp, 1, none⟩) hlt).trans p1, (hb'.cell (p := ⟨Bp, 2, none⟩) hlt).trans p2⟩
  clear hw hY hG hG4
  refine callsIn_wide.2 ?_
  simp only [List.append_toArray, List.cons_append, List.nil_append]
  go_enter Tryd.func34, Tryd.ntmps34
  go_wp2
  have hd : Below W.heap.size W W.drew := (Below.refl _ _).drew
  go_region_with (first
    | (go_at_call 36; refine (HF.out _ (by assumption)).mono ?_; rintro e w' ⟨rfl, hb1, s0, s1, s2⟩)
    | (go_at_call 35; refine (HW.out _ (by assumption)).mono ?_; rintro e w' ⟨b, rfl, hend⟩))
  all_goals
    go_end0
    exact ⟨⟨_, rfl⟩, hend⟩
end Go.Proofs.YtfanaanofjhlkaaDoor
