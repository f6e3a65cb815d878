/-
  gleanlaw.example makes the document's program, in new memory.
-/
import Derived.Test.YtgbneeohaboncaaGreatDoorLent
import Derived.Test.YtgbneeohaboncaaGreatDoorMade
import Derived.Test.YtgbneeohaboncaaGreatDoorExample
namespace Go.Proofs.YtgbneeohaboncaaGreatDoor
open Go Go.RowKit

set_option maxHeartbeats 2000000 in
theorem example_calls (w : World) :
    Calls Tryz.prog 32 #[] w fun e w' => ∃ B C, e = .returned (.agg #[.slice (some ⟨C, 0, none⟩) 1 1, .int .i64 0, .int .i64 2]) ∧ BoxAt w' B 108 #[.int .i64 0, .int .i64 1, .int .i64 0, .int .i64 2] ∧ BoxAt w' C 111 #[.int .i64 2, .int .i64 1, .slice (some ⟨B, 0, none⟩) 2 2] ∧ Below w.heap.size w w' := by
  go_enter Tryz.func32, Tryz.ntmps32
  go_wp2_with fail
  obtain ⟨W, hW⟩ : ∃ W, ((w.alloc (Obj.cells #[.slice (some ⟨w.heap.size + 1 + 1, 0, none⟩) 1 1, .int .i64 0, .int .i64 2] 42)).alloc (Obj.cells #[.int .i64 0, .int .i64 1, .int .i64 0, .int .i64 2] 108)).alloc (Obj.cells #[.int .i64 2, .int .i64 1, .slice (some ⟨w.heap.size + 1, 0, none⟩) 2 2] 111) = W := ⟨_, rfl⟩
  have b0 : BoxAt W w.heap.size 42 #[.slice (some ⟨w.heap.size + 1 + 1, 0, none⟩) 1 1, .int .i64 0, .int .i64 2] := by rw [← hW]; exact ((BoxAt.new w _ _).alloc _).alloc _
  have b1 : BoxAt W (w.heap.size + 1) 108 #[.int .i64 0, .int .i64 1, .int .i64 0, .int .i64 2] := by
    rw [← hW]; have := (BoxAt.new (w.alloc (Obj.cells #[.slice (some ⟨w.heap.size + 1 + 1, 0, none⟩) 1 1, .int .i64 0, .int .i64 2] 42)) 108 #[.int .i64 0, .int .i64 1, .int .i64 0, .int .i64 2]).alloc (Obj.cells #[.int .i64 2, .int .i64 1, .slice (some ⟨w.heap.size + 1, 0, none⟩) 2 2] 111)
    simpa only [World.size_alloc] using this
  have b2 : BoxAt W (w.heap.size + 1 + 1) 111 #[.int .i64 2, .int .i64 1, .slice (some ⟨w.heap.size + 1, 0, none⟩) 2 2] := by
    rw [← hW]; have := BoxAt.new ((w.alloc (Obj.cells #[.slice (some ⟨w.heap.size + 1 + 1, 0, none⟩) 1 1, .int .i64 0, .int .i64 2] 42)).alloc (Obj.cells #[.int .i64 0, .int .i64 1, .int .i64 0, .int .i64 2] 108)) 111 #[.int .i64 2, .int .i64 1, .slice (some ⟨w.heap.size + 1, 0, none⟩) 2 2]
    simpa only [World.size_alloc] using this
  have hb : Below w.heap.size w W := by rw [← hW]; exact (((Below.refl _ _).alloc (Nat.le_refl _) _).alloc (by simp) _).alloc (by simp; omega) _
  rw [hW]
  clear hW
  have e0 := b0.cell (o := 0) rfl
  have e1 := b0.cell (o := 1) rfl
  have e2 := b0.cell (o := 2) rfl
  exact bodyPost_ret (v := .agg #[.slice (some ⟨w.heap.size + 1 + 1, 0, none⟩) 1 1, .int .i64 0, .int .i64 2]) (by simp [results, Tryz.results32, go_sem, e0, e1, e2]) rfl ⟨w.heap.size + 1, w.heap.size + 1 + 1, rfl, b1, b2, hb⟩
end Go.Proofs.YtgbneeohaboncaaGreatDoor
/-
  gleanlaw.begun: the document's program is begun, and worked at.
-/
namespace Go.Proofs.YtgbneeohaboncaaGreatDoor
open Go Go.RowKit

theorem ex_kinds {w : World} {B C : Nat} (hB : BoxAt w B 108 #[.int .i64 0, .int .i64 1, .int .i64 0, .int .i64 2]) (hC : BoxAt w C 111 #[.int .i64 2, .int .i64 1, .slice (some ⟨B, 0, none⟩) 2 2]) : KindsAt (fun _ => True) w (.slice (some ⟨C, 0, none⟩) exKs.length 1) exKs := by
  refine ⟨_, 1, rfl, fun j k hj => ?_⟩
  have hj0 : j = 0 := by
    rcases Nat.lt_or_ge j 1 with h | h
    · omega
    · rw [List.getElem?_eq_none (by simpa [exKs] using h)] at hj; cases hj
  subst hj0
  simp only [exKs, List.getElem?_cons_zero, Option.some.injEq] at hj
  subst hj
  refine ⟨C, 0, .slice (some ⟨B, 0, none⟩) 2 2, rfl, trivial, hC.lt, hC.cell rfl, hC.cell rfl, hC.cell rfl, some ⟨B, 0, none⟩, 2, rfl, fun i c hi => ?_⟩
  match i, hi with
  | 0, hi => simp only [List.getElem?_cons_zero, Option.some.injEq] at hi; subst hi; exact ⟨B, 0, rfl, trivial, hB.lt, hB.cell rfl, hB.cell rfl⟩
  | 1, hi => simp only [List.getElem?_cons_succ, List.getElem?_cons_zero, Option.some.injEq] at hi; subst hi; exact ⟨B, 0, rfl, trivial, hB.lt, hB.cell rfl, hB.cell rfl⟩
  | i + 2, hi => simp at hi

/-- What the document's program comes to when worker 0 has done its first task. -/
theorem ex_work : (workS (newS 2 3 1 exKs 0 2) 0).2 = 0 := by kernel_rfl
theorem ex_tasks : tasksS (workS (newS 2 3 1 exKs 0 2) 0).1 0 = ([⟨⟨#[48]⟩, 0, 1⟩, ⟨⟨#[49]⟩, 0, 0⟩], 0) := by kernel_rfl

set_option maxHeartbeats 2000000 in
set_option maxRecDepth 100000 in
theorem begun_calls (w : World) : Calls Tryz.prog 15 #[] w fun e w' => e = .returned (.bool true) ∧ Below w.heap.size w w' := by
  have hu : (unfoldS exKs 0 2).1 = 0 := by rw [ex_unfold]
  have hal : Alone (newS 2 3 1 exKs 0 2) 0 := Alone.new rfl hu
  have HN : Hid (∀ (C : Nat) (W : World), KindsAt (fun _ => True) W (.slice (some ⟨C, 0, none⟩) exKs.length 1) exKs → Calls Tryz.prog 25 #[.agg #[.int .i64 2, .int .i64 3, .int .i64 1], .agg #[.slice (some ⟨C, 0, none⟩) 1 1, .int .i64 0, .int .i64 2]] W fun e w' => ∃ B, e = .returned (.tuple #[.pointer (some ⟨B, 0, none⟩), .int .i64 0]) ∧ XOK (fun b => W.heap.size ≤ b) w' B (newS 2 3 1 exKs 0 2) ∧ Below W.heap.size W w') := fun C W h => x_new_good (some ⟨C, 0, none⟩) 1 2 3 1 0 2 exKs W h rfl hu
  have HW : Hid (∀ (F : Nat → Prop) (B : Nat) (W : World), XOK F W B (newS 2 3 1 exKs 0 2) → Calls Tryz.prog 31 #[.pointer (some ⟨B, 0, none⟩), .int .i64 0] W fun e w' => e = .returned (.int .i64 0) ∧ XOK (fun b => F b ∨ W.heap.size ≤ b) w' B (workS (newS 2 3 1 exKs 0 2) 0).1 ∧ Kept F W w') := fun F B W h => by
    have := x_work_calls F B (newS 2 3 1 exKs 0 2) 0 W h hal.fits hal.going (Nat.zero_le _) (.inl rfl)
    rwa [ex_work] at this
  have HT : Hid (∀ (F : Nat → Prop) (B : Nat) (W : World), XOK F W B (workS (newS 2 3 1 exKs 0 2) 0).1 → Calls Tryz.prog 26 #[.pointer (some ⟨B, 0, none⟩), .int .i64 0] W fun e w' => ∃ g cap, e = .returned (.tuple #[.slice (some ⟨g, 0, none⟩) 2 cap, .int .i64 0]) ∧ w'.cell? ⟨g, 0, none⟩ = some (.string ⟨#[48]⟩) ∧ w'.cell? ⟨g, 2, none⟩ = some (.int .i64 1) ∧ w'.cell? ⟨g, 3, none⟩ = some (.string ⟨#[49]⟩) ∧ w'.cell? ⟨g, 5, none⟩ = some (.int .i64 0) ∧ Below W.heap.size W w') := fun F B W h => by
    refine (x_tasks_calls F B (workS (newS 2 3 1 exKs 0 2) 0).1 0 W h (hal.work 0).fits).mono ?_
    rw [ex_tasks]
    rintro e w' ⟨v, rfl, hr, hb⟩
    obtain ⟨a, cap, rfl, hc⟩ := row_slice hr
    obtain ⟨g, rfl, -, -, c0⟩ := hc 0 _ rfl
    obtain ⟨g1, e1, -, -, c2⟩ := hc 2 _ rfl
    obtain ⟨g2, e2, -, -, c3⟩ := hc 3 _ rfl
    obtain ⟨g3, e3, -, -, c5⟩ := hc 5 _ rfl
    cases e1; cases e2; cases e3
    exact ⟨g, cap, rfl, c0, c2, c3, c5, hb⟩
  clear hu hal
  obtain ⟨s0, hs0⟩ : ∃ s0, newS 2 3 1 exKs 0 2 = s0 := ⟨_, rfl⟩
  rw [hs0] at HN HW HT
  clear hs0
  go_enter Tryz.func15, Tryz.ntmps15
  go_upto_region 6 with (first
    | (go_at_call 32; refine (example_calls w).mono ?_; rintro e w1 ⟨B, C, rfl, hB, hC, hb1⟩
       have HK := hid_of (ex_kinds hB hC)
       have HB1 := hid_of hb1
       clear hB hC hb1)
    | (go_at_call 25; refine (HN.out C w1 HK.out).mono ?_; rintro e w2 ⟨B1, rfl, hx2, hb2⟩
       have HX2 := hid_of hx2
       have HB2 := hid_of hb2
       clear hx2 hb2)
    | (go_at_call 31; refine (HW.out _ B1 w2 HX2.out).mono ?_; rintro e w3 ⟨rfl, hx3, hk3⟩
       have HX3 := hid_of hx3
       have HK3 := hid_of hk3
       clear hx3 hk3)
    | (go_at_call 26; refine (HT.out _ B1 w3 HX3.out).mono ?_; rintro e w4 ⟨g, cap, rfl, c0, c2, c3, c5, hb4⟩
       have HB4 := hid_of hb4
       clear hb4))
  go_wp2_with fail
  go_ret
  have e1 := HB1.out.size
  have e2 := HB2.out.size
  have e3 := HK3.out.size
  exact ⟨by simp, ((HB1.out.trans (HB2.out.mono e1)).trans (HK3.out.below (by omega) (fun k h => by omega))).trans (HB4.out.mono (by omega))⟩
end Go.Proofs.YtgbneeohaboncaaGreatDoor
