/-
  gleanlaw.example makes the document's program, in new memory.
-/
import Derived.Test.YtdbbejedipfckaaGreatDoorLent
import Derived.Test.YtdbbejedipfckaaGreatDoorMade
import Derived.Test.YtdbbejedipfckaaGreatDoorSame
import Derived.Test.YtdbbejedipfckaaGreatDoorTamed
import Derived.Test.YtdbbejedipfckaaGreatDoorXDrop
namespace Go.Proofs.YtdbbejedipfckaaGreatDoor
open Go Go.RowKit

set_option maxHeartbeats 2000000 in
theorem example_calls (w : World) :
    Calls Tryz.prog 33 #[] w fun e w' => ∃ B C, e = .returned (.agg #[.slice (some ⟨C, 0, none⟩) 1 1, .int .i64 0, .int .i64 2]) ∧ BoxAt w' B 108 #[.int .i64 0, .int .i64 1, .int .i64 0, .int .i64 2] ∧ BoxAt w' C 111 #[.int .i64 2, .int .i64 1, .slice (some ⟨B, 0, none⟩) 2 2] ∧ Below w.heap.size w w' := by
  go_enter Tryz.func33, Tryz.ntmps33
  go_wp2_with fail
  obtain ⟨W, hW⟩ : ∃ W, ((w.alloc (Obj.cells #[.slice (some ⟨w.heap.size + 1 + 1, 0, none⟩) 1 1, .int .i64 0, .int .i64 2] 42)).alloc (Obj.cells #[.int .i64 0, .int .i64 1, .int .i64 0, .int .i64 2] 108)).alloc (Obj.cells #[.int .i64 2, .int .i64 1, .slice (some ⟨w.heap.size + 1, 0, none⟩) 2 2] 111) = W := ⟨_, rfl⟩
  have b0 : BoxAt W w.heap.size 42 #[.slice (some ⟨w.heap.size + 1 + 1, 0, none⟩) 1 1, .int .i64 0, .int .i64 2] := by rw [← hW]; exact ((BoxAt.new w _ _).alloc _).alloc _
  have b1 : BoxAt W (w.heap.size + 1) 108 #[.int .i64 0, .int .i64 1, .int .i64 0, .int .i64 2] := by
    rw [← hW]; have := (BoxAt.new (w.alloc (Obj.cells #[.slice (some ⟨w.heap.size + 1 + 1, 0, none⟩) 1 1, .int .i64 0, .int .i64 2] 42)) 108 #[.int .i64 0, .int .i64 1, .int .i64 0, .int .i64 2]).alloc (Obj.cells #[.int .i64 2, .int .i64 1, .slice (some ⟨w.heap.size + 1, 0, none⟩) 2 2] 111)
    simpa only [World.size_alloc] using this
  have b2 : BoxAt W (w.heap.size + 1 + 1) 111 #[.int .i64 2, .int .i64 1, .slice (some ⟨w.heap.size + 1, 0, none⟩) 2 2] := by
    rw [← hW]; have := BoxAt.new ((w.alloc (Obj.cells #[.slice (some ⟨w.heap.size + 1 + 1, 0, none⟩) 1 1, .int .i64 0, .int .i64 2] 42)).alloc (Obj.cells #[.int .i64 0, .int .i64 1, .int .i64 0, .int .i64 2] 108)) 111 #[.int .i64 2, .int .i64 1, .slice (some ⟨w.heap.size + 1, 0, none⟩) 2 2]
    simpa only [World.size_alloc] using this
  have hb : Below w.heap.size w W := by rw [← hW]; exact (((Below.refl _ _).alloc (Nat.le_refl _) _).alloc (by simp) _).alloc (by simp; omega) _
  rw [hW]
  clear hW
  have e0 := b0.cell (o := 0) rfl
  have e1 := b0.cell (o := 1) rfl
  have e2 := b0.cell (o := 2) rfl
  exact bodyPost_ret (v := .agg #[.slice (some ⟨w.heap.size + 1 + 1, 0, none⟩) 1 1, .int .i64 0, .int .i64 2]) (by simp [results, Tryz.results33, go_sem, e0, e1, e2]) rfl ⟨w.heap.size + 1, w.heap.size + 1 + 1, rfl, b1, b2, hb⟩
end Go.Proofs.YtdbbejedipfckaaGreatDoor
/-
  gleanlaw.begun: the document's program is begun, and worked at.
-/
namespace Go.Proofs.YtdbbejedipfckaaGreatDoor
open Go Go.RowKit

theorem ex_kinds {w : World} {B C : Nat} (hB : BoxAt w B 108 #[.int .i64 0, .int .i64 1, .int .i64 0, .int .i64 2]) (hC : BoxAt w C 111 #[.int .i64 2, .int .i64 1, .slice (some ⟨B, 0, none⟩) 2 2]) : KindsAt (fun _ => True) w (.slice (some ⟨C, 0, none⟩) exKs.length 1) exKs := by
  refine ⟨_, 1, rfl, fun j k hj => ?_⟩
  have hj0 : j = 0 := by
    rcases Nat.lt_or_ge j 1 with h | h
    · omega
    · rw [List.getElem?_eq_none (by simpa [exKs] using h)] at hj; cases hj
  subst hj0
  simp only [exKs, List.getElem?_cons_zero, Option.some.injEq] at hj
  subst hj
  refine ⟨C, 0, .slice (some ⟨B, 0, none⟩) 2 2, rfl, trivial, hC.lt, hC.cell rfl, hC.cell rfl, hC.cell rfl, some ⟨B, 0, none⟩, 2, rfl, fun i c hi => ?_⟩
  match i, hi with
  | 0, hi => simp only [List.getElem?_cons_zero, Option.some.injEq] at hi; subst hi; exact ⟨B, 0, rfl, trivial, hB.lt, hB.cell rfl, hB.cell rfl⟩
  | 1, hi => simp only [List.getElem?_cons_succ, List.getElem?_cons_zero, Option.some.injEq] at hi; subst hi; exact ⟨B, 0, rfl, trivial, hB.lt, hB.cell rfl, hB.cell rfl⟩
  | i + 2, hi => simp at hi

/-- What the document's program comes to when worker 0 has done its first task. -/
theorem ex_work : (workS (newS 2 3 1 exKs 0 2) 0).2 = 0 := by kernel_rfl
theorem ex_tasks : tasksS (workS (newS 2 3 1 exKs 0 2) 0).1 0 = ([⟨⟨#[48]⟩, 0, 1⟩, ⟨⟨#[49]⟩, 0, 0⟩], 0) := by kernel_rfl

set_option maxHeartbeats 2000000 in
set_option maxRecDepth 100000 in
theorem begun_calls (w : World) : Calls Tryz.prog 16 #[] w fun e w' => e = .returned (.bool true) ∧ Below w.heap.size w w' := by
  have hu : (unfoldS exKs 0 2).1 = 0 := by rw [ex_unfold]
  have hal : Alone (newS 2 3 1 exKs 0 2) 0 := Alone.new rfl hu
  have HN : Hid (∀ (C : Nat) (W : World), KindsAt (fun _ => True) W (.slice (some ⟨C, 0, none⟩) exKs.length 1) exKs → Calls Tryz.prog 26 #[.agg #[.int .i64 2, .int .i64 3, .int .i64 1], .agg #[.slice (some ⟨C, 0, none⟩) 1 1, .int .i64 0, .int .i64 2]] W fun e w' => ∃ B, e = .returned (.tuple #[.pointer (some ⟨B, 0, none⟩), .int .i64 0]) ∧ XOK (fun b => W.heap.size ≤ b) w' B (newS 2 3 1 exKs 0 2) ∧ Below W.heap.size W w') := fun C W h => x_new_good (some ⟨C, 0, none⟩) 1 2 3 1 0 2 exKs W h rfl hu
  have HW : Hid (∀ (F : Nat → Prop) (B : Nat) (W : World), XOK F W B (newS 2 3 1 exKs 0 2) → Calls Tryz.prog 32 #[.pointer (some ⟨B, 0, none⟩), .int .i64 0] W fun e w' => e = .returned (.int .i64 0) ∧ XOK (fun b => F b ∨ W.heap.size ≤ b) w' B (workS (newS 2 3 1 exKs 0 2) 0).1 ∧ Kept F W w') := fun F B W h => by
    have := x_work_calls F B (newS 2 3 1 exKs 0 2) 0 W h hal.fits hal.going (Nat.zero_le _) (.inl rfl)
    rwa [ex_work] at this
  have HT : Hid (∀ (F : Nat → Prop) (B : Nat) (W : World), XOK F W B (workS (newS 2 3 1 exKs 0 2) 0).1 → Calls Tryz.prog 27 #[.pointer (some ⟨B, 0, none⟩), .int .i64 0] W fun e w' => ∃ g cap, e = .returned (.tuple #[.slice (some ⟨g, 0, none⟩) 2 cap, .int .i64 0]) ∧ w'.cell? ⟨g, 0, none⟩ = some (.string ⟨#[48]⟩) ∧ w'.cell? ⟨g, 2, none⟩ = some (.int .i64 1) ∧ w'.cell? ⟨g, 3, none⟩ = some (.string ⟨#[49]⟩) ∧ w'.cell? ⟨g, 5, none⟩ = some (.int .i64 0) ∧ Below W.heap.size W w') := fun F B W h => by
    refine (x_tasks_calls F B (workS (newS 2 3 1 exKs 0 2) 0).1 0 W h (hal.work 0).fits).mono ?_
    rw [ex_tasks]
    rintro e w' ⟨v, rfl, hr, hb⟩
    obtain ⟨a, cap, rfl, hc⟩ := row_slice hr
    obtain ⟨g, rfl, -, -, c0⟩ := hc 0 _ rfl
    obtain ⟨g1, e1, -, -, c2⟩ := hc 2 _ rfl
    obtain ⟨g2, e2, -, -, c3⟩ := hc 3 _ rfl
    obtain ⟨g3, e3, -, -, c5⟩ := hc 5 _ rfl
    cases e1; cases e2; cases e3
    exact ⟨g, cap, rfl, c0, c2, c3, c5, hb⟩
  clear hu hal
  obtain ⟨s0, hs0⟩ : ∃ s0, newS 2 3 1 exKs 0 2 = s0 := ⟨_, rfl⟩
  rw [hs0] at HN HW HT
  clear hs0
  go_enter Tryz.func16, Tryz.ntmps16
  go_upto_region 6 with (first
    | (go_at_call 33; refine (example_calls w).mono ?_; rintro e w1 ⟨B, C, rfl, hB, hC, hb1⟩
       have HK := hid_of (ex_kinds hB hC)
       have HB1 := hid_of hb1
       clear hB hC hb1)
    | (go_at_call 26; refine (HN.out C w1 HK.out).mono ?_; rintro e w2 ⟨B1, rfl, hx2, hb2⟩
       have HX2 := hid_of hx2
       have HB2 := hid_of hb2
       clear hx2 hb2)
    | (go_at_call 32; refine (HW.out _ B1 w2 HX2.out).mono ?_; rintro e w3 ⟨rfl, hx3, hk3⟩
       have HX3 := hid_of hx3
       have HK3 := hid_of hk3
       clear hx3 hk3)
    | (go_at_call 27; refine (HT.out _ B1 w3 HX3.out).mono ?_; rintro e w4 ⟨g, cap, rfl, c0, c2, c3, c5, hb4⟩
       have HB4 := hid_of hb4
       clear hb4))
  go_wp2_with fail
  go_ret
  have e1 := HB1.out.size
  have e2 := HB2.out.size
  have e3 := HK3.out.size
  exact ⟨by simp, ((HB1.out.trans (HB2.out.mono e1)).trans (HK3.out.below (by omega) (fun k h => by omega))).trans (HB4.out.mono (by omega))⟩
end Go.Proofs.YtdbbejedipfckaaGreatDoor
/-
  gleanlaw's twin.changes: one Work on the program and on the document's answer: both answer alike, and stay alike.
-/
namespace Go.Proofs.YtdbbejedipfckaaGreatDoor
open Go Go.RowKit

set_option maxHeartbeats 4000000 in
set_option maxRecDepth 100000 in
theorem changes2_calls (F : Nat → Prop) (xp wp : Option Addr) (m : Nat) (hm : m ≤ 900000) (r W V i b c wk rm md pk pa : Int) (ka : Option Addr) (kn kc : Nat) (w : World) (ht : TwinAt F w xp wp m) :
    Calls Tryz.prog 21 #[.agg #[.pointer xp, .pointer wp], .agg (opV 2 r W V i b c wk rm md (.slice ka kn kc) pk pa)] w fun e w' => e = .returned (.bool true) ∧ TwinAt (fun g => F g ∨ w.heap.size ≤ g) w' xp wp (m + 1) ∧ Kept F w w' := by
  obtain ⟨Z, hZ⟩ : ∃ Z, (w.alloc (Obj.cells #[.pointer xp, .pointer wp] 61)).alloc (Obj.cells (opV 2 r W V i b c wk rm md (.slice ka kn kc) pk pa) 58) = Z := ⟨_, rfl⟩
  have hbZ : Below w.heap.size w Z := by rw [← hZ]; exact ((Below.refl _ _).alloc (Nat.le_refl _) _).alloc (by simp) _
  have bT : BoxAt Z w.heap.size 61 #[.pointer xp, .pointer wp] := by rw [← hZ]; exact (BoxAt.new w _ _).alloc _
  have bO : BoxAt Z (w.heap.size + 1) 58 (opV 2 r W V i b c wk rm md (.slice ka kn kc) pk pa) := by rw [← hZ]; exact boxAt_at _ _ _ _ (by simp)
  have sZ : Z.heap.size = w.heap.size + 2 := by rw [← hZ]; simp
  have HBT := hid_of bT
  have HBO := hid_of bO
  have HBZ := hid_of hbZ
  have t0 := bT.cell (o := 0) rfl
  have o0 := bO.cell (o := 0) rfl
  have o2 := bO.cell (o := 2) rfl
  clear bT bO hbZ
  have HKZ : Hid (Kept (fun _ => False) w Z) := Kept.of_below HBZ.out (fun k h1 h2 => by omega)
  rcases ht with ⟨rfl, rfl⟩ | ⟨B1, B2, F1, F2, s, rfl, rfl, hx, hr, h12, h2, hal⟩
  · have HW : Hid (Calls Tryz.prog 32 #[.pointer none, .int .i64 W] Z fun e w' => e = .returned (.int .i64 1) ∧ Below Z.heap.size Z w') := x_work_nil W Z
    go_enter Tryz.func21, Tryz.ntmps21
    go_wp2_with (first
      | (go_at_call 32; refine HW.out.mono ?_; rintro e w1 ⟨rfl, hb1⟩
         have t1 := (HBT.out.below hb1 (by omega)).cell (o := 1) rfl
         have o2' := (HBO.out.below hb1 (by omega)).cell (o := 2) rfl
         have HB1 := hid_of hb1
         clear hb1)
      | (go_at_call 47; refine ((ref_work_nil W w1).mono fun e w' h => And.intro h.1 h.2.symm).mono ?_; rintro e w2 ⟨rfl, rfl⟩))
    go_ret
    exact ⟨rfl, .inl ⟨rfl, rfl⟩, HKZ.out.mono (fun _ _ h => h.elim) |>.later HB1.out (by omega)⟩
  · have hxZ : XOK (fun g => F1 g ∧ g < w.heap.size) Z B1 s := hx.kept HKZ.out (fun g hg h => ⟨fun h => h, h, hg⟩)
    have hrZ : RefOK (fun g => F2 g ∧ g < w.heap.size) Z B2 s := hr.kept HKZ.out (fun g hg h => ⟨fun h => h, h, hg⟩)
    have HW : Hid (Calls Tryz.prog 32 #[.pointer (some ⟨B1, 0, none⟩), .int .i64 W] Z fun e w' => e = .returned (.int .i64 (workS s W).2) ∧ XOK (fun g => (F1 g ∧ g < w.heap.size) ∨ Z.heap.size ≤ g) w' B1 (workS s W).1 ∧ Kept (fun g => F1 g ∧ g < w.heap.size) Z w') := x_work_calls _ B1 s W Z hxZ hal.fits hal.going (by have := hal.vals; omega) (hal.idle W)
    have HR : Hid (∀ w1, RefOK (fun g => F2 g ∧ g < w.heap.size) w1 B2 s → Calls Tryz.prog 47 #[.pointer (some ⟨B2, 0, none⟩), .int .i64 W] w1 fun e w' => e = .returned (.int .i64 (workS s W).2) ∧ RefOK (fun g => (F2 g ∧ g < w.heap.size) ∨ w1.heap.size ≤ g) w' B2 (workS s W).1 ∧ Kept (fun g => F2 g ∧ g < w.heap.size) w1 w') := fun w1 h => ref_work_calls _ B2 s W w1 h hal.fits (by have := hal.vals; omega) (hal.idle W)
    have HRZ := hid_of hrZ
    have H12 := hid_of h12
    have H2 := hid_of h2
    have HAL := hid_of hal
    clear hx hr h12 h2 hal hxZ hrZ
    obtain ⟨er, her⟩ : ∃ er, (workS s W).2 = er := ⟨_, rfl⟩
    obtain ⟨s', hs'⟩ : ∃ s', (workS s W).1 = s' := ⟨_, rfl⟩
    rw [her, hs'] at HW
    rw [her, hs'] at HR
    have HS' := hid_of hs'
    clear her hs'
    go_enter Tryz.func21, Tryz.ntmps21
    go_wp2_with (first
      | (go_at_call 32; refine HW.out.mono ?_; rintro e w1 ⟨rfl, hx1, hk1⟩
         have t1 := (HBT.out.kept hk1 (by omega)).cell (o := 1) rfl
         have o2' := (HBO.out.kept hk1 (by omega)).cell (o := 2) rfl
         have HX1 := hid_of hx1
         have HK1 := hid_of hk1
         have HR1 : Hid (RefOK (fun g => F2 g ∧ g < w.heap.size) w1 B2 s) := HRZ.out.kept hk1 (fun g hg h => ⟨fun h' => (H12.out g h'.1).2 h.1, h⟩)
         clear hx1 hk1)
      | (go_at_call 47; refine (HR.out w1 HR1.out).mono ?_; rintro e w2 ⟨rfl, hr2, hk2⟩
         have HR2 := hid_of hr2
         have HK2 := hid_of hk2
         clear hr2 hk2))
    go_ret
    have e1 := HK1.out.size
    have e2 := HK2.out.size
    refine ⟨by simp, .inr ⟨B1, B2, fun g => ((F1 g ∧ g < w.heap.size) ∨ Z.heap.size ≤ g) ∧ g < w1.heap.size, fun g => (F2 g ∧ g < w.heap.size) ∨ w1.heap.size ≤ g, s', rfl, rfl, ?_, HR2.out, ?_, ?_, ?_⟩, ?_⟩
    · exact HX1.out.kept HK2.out (fun g hg h => ⟨fun h' => (by
        rcases h with h | h
        · exact (H12.out g h.1).2 h'.1
        · omega), h, hg⟩)
    · intro g h
      refine ⟨?_, fun h' => ?_⟩
      · rcases h.1 with h' | h'
        · exact .inl (H12.out g h'.1).1
        · exact .inr (by omega)
      · rcases h.1 with h1 | h1
        · rcases h' with h' | h'
          · exact (H12.out g h1.1).2 h'.1
          · omega
        · omega
    · intro g h
      rcases h with h | h
      · exact .inl (H2.out g h.1)
      · exact .inr (by omega)
    · rw [← HS'.out]; exact HAL.out.work W
    · exact ((HKZ.out.mono (fun _ _ h => h.elim)).andThen HK1.out (fun g _ h => (H12.out g h.1).1)).andThen HK2.out (fun g _ h => H2.out g h.1)
end Go.Proofs.YtdbbejedipfckaaGreatDoor
/-
  gleanlaw's twin.changes: one Steal on the program and on the document's answer: both answer alike, and stay alike.
-/
namespace Go.Proofs.YtdbbejedipfckaaGreatDoor
open Go Go.RowKit

set_option maxHeartbeats 4000000 in
set_option maxRecDepth 100000 in
theorem changes4_calls (F : Nat → Prop) (xp wp : Option Addr) (m : Nat) (hm : m ≤ 900000) (r W V i b c wk rm md pk pa : Int) (ka : Option Addr) (kn kc : Nat) (w : World) (ht : TwinAt F w xp wp m) :
    Calls Tryz.prog 21 #[.agg #[.pointer xp, .pointer wp], .agg (opV 4 r W V i b c wk rm md (.slice ka kn kc) pk pa)] w fun e w' => e = .returned (.bool true) ∧ TwinAt (fun g => F g ∨ w.heap.size ≤ g) w' xp wp (m + 1) ∧ Kept F w w' := by
  obtain ⟨Z, hZ⟩ : ∃ Z, (w.alloc (Obj.cells #[.pointer xp, .pointer wp] 61)).alloc (Obj.cells (opV 4 r W V i b c wk rm md (.slice ka kn kc) pk pa) 58) = Z := ⟨_, rfl⟩
  have hbZ : Below w.heap.size w Z := by rw [← hZ]; exact ((Below.refl _ _).alloc (Nat.le_refl _) _).alloc (by simp) _
  have bT : BoxAt Z w.heap.size 61 #[.pointer xp, .pointer wp] := by rw [← hZ]; exact (BoxAt.new w _ _).alloc _
  have bO : BoxAt Z (w.heap.size + 1) 58 (opV 4 r W V i b c wk rm md (.slice ka kn kc) pk pa) := by rw [← hZ]; exact boxAt_at _ _ _ _ (by simp)
  have sZ : Z.heap.size = w.heap.size + 2 := by rw [← hZ]; simp
  have HBT := hid_of bT
  have HBO := hid_of bO
  have HBZ := hid_of hbZ
  have t0 := bT.cell (o := 0) rfl
  have o0 := bO.cell (o := 0) rfl
  have o2 := bO.cell (o := 2) rfl
  have o3 := bO.cell (o := 3) rfl
  clear bT bO hbZ
  have HKZ : Hid (Kept (fun _ => False) w Z) := Kept.of_below HBZ.out (fun k h1 h2 => by omega)
  rcases ht with ⟨rfl, rfl⟩ | ⟨B1, B2, F1, F2, s, rfl, rfl, hx, hr, h12, h2, hal⟩
  · have HW : Hid (Calls Tryz.prog 48 #[.pointer none, .int .i64 W, .int .i64 V] Z fun e w' => e = .returned (.int .i64 1) ∧ Below Z.heap.size Z w') := x_steal_nil W V Z
    go_enter Tryz.func21, Tryz.ntmps21
    go_wp2_with (first
      | (go_at_call 48; refine HW.out.mono ?_; rintro e w1 ⟨rfl, hb1⟩
         have t1 := (HBT.out.below hb1 (by omega)).cell (o := 1) rfl
         have o2' := (HBO.out.below hb1 (by omega)).cell (o := 2) rfl
         have o3' := (HBO.out.below hb1 (by omega)).cell (o := 3) rfl
         have HB1 := hid_of hb1
         clear hb1)
      | (go_at_call 49; refine ((ref_steal_nil W V w1).mono fun e w' h => And.intro h.1 h.2.symm).mono ?_; rintro e w2 ⟨rfl, rfl⟩))
    go_ret
    exact ⟨rfl, .inl ⟨rfl, rfl⟩, HKZ.out.mono (fun _ _ h => h.elim) |>.later HB1.out (by omega)⟩
  · have hxZ : XOK (fun g => F1 g ∧ g < w.heap.size) Z B1 s := hx.kept HKZ.out (fun g hg h => ⟨fun h => h, h, hg⟩)
    have hrZ : RefOK (fun g => F2 g ∧ g < w.heap.size) Z B2 s := hr.kept HKZ.out (fun g hg h => ⟨fun h => h, h, hg⟩)
    have HW : Hid (Calls Tryz.prog 48 #[.pointer (some ⟨B1, 0, none⟩), .int .i64 W, .int .i64 V] Z fun e w' => e = .returned (.int .i64 (stealS s W V).2) ∧ XOK (fun g => (F1 g ∧ g < w.heap.size) ∨ Z.heap.size ≤ g) w' B1 (stealS s W V).1 ∧ Kept (fun g => F1 g ∧ g < w.heap.size) Z w') := x_steal_calls _ B1 m s W V Z hxZ hal.fits hal.shaped hal.small (by omega) hal.known hal.going
    have HR : Hid (∀ w1, RefOK (fun g => F2 g ∧ g < w.heap.size) w1 B2 s → Calls Tryz.prog 49 #[.pointer (some ⟨B2, 0, none⟩), .int .i64 W, .int .i64 V] w1 fun e w' => e = .returned (.int .i64 (stealS s W V).2) ∧ RefOK (fun g => (F2 g ∧ g < w.heap.size) ∨ w1.heap.size ≤ g) w' B2 (stealS s W V).1 ∧ Kept (fun g => F2 g ∧ g < w.heap.size) w1 w') := fun w1 h => ref_steal_calls _ B2 m s W V w1 h hal.shaped hal.small (by omega)
    have HRZ := hid_of hrZ
    have H12 := hid_of h12
    have H2 := hid_of h2
    have HAL := hid_of hal
    clear hx hr h12 h2 hal hxZ hrZ
    obtain ⟨er, her⟩ : ∃ er, (stealS s W V).2 = er := ⟨_, rfl⟩
    obtain ⟨s', hs'⟩ : ∃ s', (stealS s W V).1 = s' := ⟨_, rfl⟩
    rw [her, hs'] at HW
    rw [her, hs'] at HR
    have HS' := hid_of hs'
    clear her hs'
    go_enter Tryz.func21, Tryz.ntmps21
    go_wp2_with (first
      | (go_at_call 48; refine HW.out.mono ?_; rintro e w1 ⟨rfl, hx1, hk1⟩
         have t1 := (HBT.out.kept hk1 (by omega)).cell (o := 1) rfl
         have o2' := (HBO.out.kept hk1 (by omega)).cell (o := 2) rfl
         have o3' := (HBO.out.kept hk1 (by omega)).cell (o := 3) rfl
         have HX1 := hid_of hx1
         have HK1 := hid_of hk1
         have HR1 : Hid (RefOK (fun g => F2 g ∧ g < w.heap.size) w1 B2 s) := HRZ.out.kept hk1 (fun g hg h => ⟨fun h' => (H12.out g h'.1).2 h.1, h⟩)
         clear hx1 hk1)
      | (go_at_call 49; refine (HR.out w1 HR1.out).mono ?_; rintro e w2 ⟨rfl, hr2, hk2⟩
         have HR2 := hid_of hr2
         have HK2 := hid_of hk2
         clear hr2 hk2))
    go_ret
    have e1 := HK1.out.size
    have e2 := HK2.out.size
    refine ⟨by simp, .inr ⟨B1, B2, fun g => ((F1 g ∧ g < w.heap.size) ∨ Z.heap.size ≤ g) ∧ g < w1.heap.size, fun g => (F2 g ∧ g < w.heap.size) ∨ w1.heap.size ≤ g, s', rfl, rfl, ?_, HR2.out, ?_, ?_, ?_⟩, ?_⟩
    · exact HX1.out.kept HK2.out (fun g hg h => ⟨fun h' => (by
        rcases h with h | h
        · exact (H12.out g h.1).2 h'.1
        · omega), h, hg⟩)
    · intro g h
      refine ⟨?_, fun h' => ?_⟩
      · rcases h.1 with h' | h'
        · exact .inl (H12.out g h'.1).1
        · exact .inr (by omega)
      · rcases h.1 with h1 | h1
        · rcases h' with h' | h'
          · exact (H12.out g h1.1).2 h'.1
          · omega
        · omega
    · intro g h
      rcases h with h | h
      · exact .inl (H2.out g h.1)
      · exact .inr (by omega)
    · rw [← HS'.out]; exact HAL.out.steal W V
    · exact ((HKZ.out.mono (fun _ _ h => h.elim)).andThen HK1.out (fun g _ h => (H12.out g h.1).1)).andThen HK2.out (fun g _ h => H2.out g h.1)
end Go.Proofs.YtdbbejedipfckaaGreatDoor
