/-
  Run.Work and Run.Tasks of the project, of a run that is nil and of one in memory: the document's answer as plain data.
-/
import Derived.Test.YtgbneeohaboncaaGreatDoorXYoung
import Derived.Test.YtgbneeohaboncaaGreatDoorRefWork2
namespace Go.Proofs.YtgbneeohaboncaaGreatDoor
open Go Go.RowKit Go.Maps

theorem ask_nil (v : Value) (w : World) : Calls Tryz.prog 70 #[.pointer none, v] w fun e w' => e = .returned (.int .i64 1) ∧ w' = w := by
  go_enter Tryz.func70, Tryz.ntmps70
  go_wp2_with fail
  go_ret
  exact ⟨rfl, rfl⟩
theorem ask_calls (B : Nat) (v : Value) (w : World) (R : Int → World → Prop) (h : Calls Tryz.prog 104 #[v] w fun e w' => ∃ r, e = .returned (.int .i64 r) ∧ R r w') :
    Calls Tryz.prog 70 #[.pointer (some ⟨B, 0, none⟩), v] w fun e w' => ∃ r, e = .returned (.int .i64 r) ∧ R r w' := by
  have H := hid_of h
  clear h
  go_enter Tryz.func70, Tryz.ntmps70
  go_wp2_with (go_at_call 104; refine H.out.mono ?_; rintro e w1 ⟨r, rfl, hr⟩)
  go_ret
  exact ⟨r, rfl, hr⟩
theorem change1_calls (Bs : Nat) (v : Value) (w : World) (R : Int → World → Prop) (hb : BoxAt w Bs 163 #[v]) (h : Calls Tryz.prog 104 #[v] w fun e w' => ∃ r, e = .returned (.int .i64 r) ∧ R r w') :
    Calls Tryz.prog 109 #[.pointer (some ⟨Bs, 0, none⟩)] w fun e w' => ∃ r, e = .returned (.int .i64 r) ∧ R r w' := by
  have H := hid_of h
  have b0 := hb.cell (o := 0) rfl
  clear h hb
  go_enter Tryz.func109, Tryz.ntmps109
  go_wp2_with (go_at_call 104; refine H.out.mono ?_; rintro e w1 ⟨r, rfl, hr⟩)
  go_ret
  exact ⟨r, rfl, hr⟩
theorem change_nil (g n : Nat) (w : World) : Calls Tryz.prog 74 #[.pointer none, .slice (some ⟨g, 0, none⟩) n n] w fun e w' => e = .returned (.int .i64 1) ∧ Below w.heap.size w w' := by
  go_enter Tryz.func74, Tryz.ntmps74
  go_wp2_with (go_at_call 70; refine (ask_nil _ _).mono ?_; rintro e w1 ⟨rfl, rfl⟩)
  go_ret
  exact ⟨rfl, ((Below.refl _ _).alloc (Nat.le_refl _) _).alloc (by simp) _⟩
set_option maxHeartbeats 1000000 in
set_option maxRecDepth 100000 in
theorem change_calls (F : Nat → Prop) (B g n : Nat) (s : RunS) (w : World) (hx : XOK F w B s) (R : Int → World → Prop) (h : s.over = false → ∀ U, Below w.heap.size w U → Calls Tryz.prog 104 #[.slice (some ⟨g, 0, none⟩) n n] U fun e w' => ∃ r, e = .returned (.int .i64 r) ∧ R r w') :
    Calls Tryz.prog 74 #[.pointer (some ⟨B, 0, none⟩), .slice (some ⟨g, 0, none⟩) n n] w fun e w' => ∃ r, e = .returned (.int .i64 r) ∧ ((s.over = true ∧ r = 6 ∧ Below w.heap.size w w') ∨ (s.over = false ∧ R r w')) := by
  obtain ⟨V, hV⟩ : ∃ V, (w.alloc (Obj.cells #[.slice (some ⟨g, 0, none⟩) n n] 163)).alloc (Obj.cells #[.func (.func 108) #[.pointer (some ⟨B, 0, none⟩)] #[], .func (.func 109) #[] #[.pointer (some ⟨w.heap.size, 0, none⟩)]] 129) = V := ⟨_, rfl⟩
  have hbV : Below w.heap.size w V := by rw [← hV]; exact ((Below.refl _ _).alloc (Nat.le_refl _) _).alloc (by simp) _
  have bS : BoxAt V w.heap.size 163 #[.slice (some ⟨g, 0, none⟩) n n] := by rw [← hV]; exact (BoxAt.new w _ _).alloc _
  have bL : BoxAt V (w.heap.size + 1) 129 #[.func (.func 108) #[.pointer (some ⟨B, 0, none⟩)] #[], .func (.func 109) #[] #[.pointer (some ⟨w.heap.size, 0, none⟩)]] := by rw [← hV]; exact boxAt_at _ _ _ _ (by simp)
  have HT := hid_of (ask_calls B (.slice (some ⟨w.heap.size + 1, 0, none⟩) 2 2) V (fun r w' => (s.over = true ∧ r = 6 ∧ Below w.heap.size w w') ∨ (s.over = false ∧ R r w')) (by
    refine (inTurn_calls (w.heap.size + 1) 2 2 [(108, #[.pointer (some ⟨B, 0, none⟩)], #[]), (109, #[], #[.pointer (some ⟨w.heap.size, 0, none⟩)])] V rfl (by omega)
      (fun i W => if i = 0 then Below V.heap.size V W else if i = 1 then Below V.heap.size V W ∧ s.over = false else s.over = false ∧ R 0 W)
      (fun r W => (s.over = true ∧ r = 6 ∧ Below w.heap.size w W) ∨ (s.over = false ∧ R r W)) ?_ ?_ ?_ ?_).mono ?_
    · intro i W hJ f hf
      match i, hf with
      | 0, hf => cases hf; simp only [if_true] at hJ; exact (bL.below hJ bL.lt).cell (o := 0) rfl
      | 1, hf => cases hf; simp only [Nat.one_ne_zero, if_false, if_true] at hJ; exact (bL.below hJ.1 bL.lt).cell (o := 1) rfl
      | (m + 2), hf => simp at hf
    · intro f hf args W
      simp at hf
      rcases hf with rfl | rfl
      · exact enters_of Tryz.func108 (by kernel_rfl) rfl args W
      · exact enters_of Tryz.func109 (by kernel_rfl) rfl args W
    · intro i f hf W hJ
      match i, hf with
      | 0, hf =>
        cases hf
        simp only [if_true] at hJ
        refine (hadRoom_calls F B s W ((hx.later hbV).later hJ)).mono ?_
        rintro e w' ⟨rfl, rfl⟩
        cases ho : s.over
        · exact ⟨0, rfl, .inl ⟨rfl, by simpa [ho] using hJ⟩⟩
        · exact ⟨6, rfl, .inr ⟨by omega, .inl ⟨rfl, rfl, hbV.trans (hJ.mono hbV.size)⟩⟩⟩
      | 1, hf =>
        cases hf
        simp only [Nat.one_ne_zero, if_false, if_true] at hJ
        refine (change1_calls w.heap.size _ W R (bS.below hJ.1 bS.lt) (h hJ.2 W (hbV.trans (hJ.1.mono hbV.size)))).mono ?_
        rintro e w' ⟨r, rfl, hr⟩
        by_cases hr0 : r = 0
        · subst hr0
          exact ⟨0, rfl, .inl ⟨rfl, by simpa using ⟨hJ.2, hr⟩⟩⟩
        · exact ⟨r, rfl, .inr ⟨hr0, .inr ⟨hJ.2, hr⟩⟩⟩
      | (m + 2), hf => simp at hf
    · exact Below.refl _ _
    · rintro e w' ⟨r, rfl, hr⟩
      refine ⟨r, rfl, ?_⟩
      rcases hr with ⟨rfl, h2⟩ | ⟨_, h2⟩
      · simp only [show ¬ (2 : Nat) = 0 by omega, show ¬ (2 : Nat) = 1 by omega, if_false] at h2
        exact .inr h2
      · exact h2))
  clear h hx
  go_enter Tryz.func74, Tryz.ntmps74
  go_wp2_with (go_at_call 70; refine HT.out.mono ?_; rintro e w1 ⟨r, rfl, hr⟩)
  go_ret
  exact ⟨r, rfl, hr⟩

theorem Calls.at_world {P : Program} {f : Nat} {args : Array Value} {w w' : World} {Q : Ending → World → Prop} (h : w = w') (hc : Calls P f args w' Q) : Calls P f args w Q := by subst h; exact hc
theorem workS_zero {s : RunS} {x : WorkerS} {L : List TaskS} {t : TaskS} (hw : workerE s 0 = 0) (hk : s.W[0]? = some x) (hxt : x.tasks = L ++ [t]) : workS s 0 = doneS s x L t := by
  simp only [workS, hw, ne_eq, not_true_eq_false, if_false, Int.toNat_zero, hk, hxt, List.getLast?_append, List.getLast?_singleton, Option.some_or, List.length_append, List.length_singleton, List.dropLast_concat, doneS]
  have e : ((L.length + 1 : Nat) : Int) - 1 + ((children s.ks t).length : Int) = (L.length : Int) + ((children s.ks t).length : Int) := by omega
  rw [e]
  rfl
theorem XOK.low {F : Nat → Prop} {w : World} {B : Nat} {s : RunS} (h : XOK F w B s) : XOK (fun b => F b ∧ b < w.heap.size) w B s := h.kept (Kept.refl (fun _ => False) w) (fun _ hg hF => ⟨fun h => h, hF, hg⟩)
theorem XOK.mono {F F' : Nat → Prop} {w : World} {B : Nat} {s : RunS} (h : XOK F w B s) (hF : ∀ b, b < w.heap.size → F b → F' b) : XOK F' w B s := h.kept (Kept.refl (fun _ => False) w) (fun b hb h => ⟨fun h => h, hF b hb h⟩)
set_option maxHeartbeats 2000000 in
set_option maxRecDepth 100000 in
theorem x_work_nil (i : Int) (w : World) : Calls Tryz.prog 31 #[.pointer none, .int .i64 i] w fun e w' => e = .returned (.int .i64 1) ∧ Below w.heap.size w w' := by
  go_enter Tryz.func31, Tryz.ntmps31
  go_wp2_with (first
    | (go_at_call 71; refine (isWorker_calls none i w).mono ?_; rintro e w1 ⟨rfl, hw1⟩; have HW1 := hid_of hw1; clear hw1)
    | (go_at_call 75; refine (hasTask_calls none i w1).mono ?_; rintro e w2 ⟨rfl, hw2⟩; have HW2 := hid_of hw2; clear hw2)
    | (go_at_call 76; refine (doYoungest_calls none i w2).mono ?_; rintro e w3 ⟨rfl, hw3⟩; have HW3 := hid_of hw3; clear hw3)
    | (go_at_call 74; refine (change_nil _ _ _).mono ?_; rintro e w4 ⟨rfl, hb4⟩))
  go_ret
  refine ⟨rfl, ?_⟩
  have h1 : Below w.heap.size w w1 := by rw [HW1.out]; exact ((Below.refl _ _).alloc (Nat.le_refl _) _).alloc (by simp) _
  have h2 : Below w1.heap.size w1 w2 := by rw [HW2.out]; exact ((Below.refl _ _).alloc (Nat.le_refl _) _).alloc (by simp) _
  have h3 : Below w2.heap.size w2 w3 := by rw [HW3.out]; exact ((Below.refl _ _).alloc (Nat.le_refl _) _).alloc (by simp) _
  have e1 := h1.size
  have e2 := h2.size
  have e3 := h3.size
  exact (((h1.trans (h2.mono e1)).trans (h3.mono (by omega))).alloc (by omega) _).trans (hb4.mono (by simp; omega))
set_option maxHeartbeats 4000000 in
set_option maxRecDepth 100000 in
theorem x_work_calls (F : Nat → Prop) (B : Nat) (s : RunS) (i : Int) (w : World) (hx : XOK F w B s) (hf : Fits s) (hd : s.done = false) (hv : s.values.length ≤ 900000) (hi : i = 0 ∨ (tasksS s i).1 = []) :
    Calls Tryz.prog 31 #[.pointer (some ⟨B, 0, none⟩), .int .i64 i] w fun e w' => e = .returned (.int .i64 (workS s i).2) ∧ XOK (fun b => F b ∨ w.heap.size ≤ b) w' B (workS s i).1 ∧ Kept F w w' := by
  have hx0 := hx.low
  -- the worlds in which the steps are made
  obtain ⟨w1, hw1⟩ : ∃ w1, (w.alloc (Obj.cells #[.pointer (some ⟨B, 0, none⟩)] 37)).alloc (Obj.cells #[.int .i64 i] 3) = w1 := ⟨_, rfl⟩
  obtain ⟨w2, hw2⟩ : ∃ w2, (w1.alloc (Obj.cells #[.pointer (some ⟨B, 0, none⟩)] 37)).alloc (Obj.cells #[.int .i64 i] 3) = w2 := ⟨_, rfl⟩
  obtain ⟨w3, hw3⟩ : ∃ w3, (w2.alloc (Obj.cells #[.pointer (some ⟨B, 0, none⟩)] 37)).alloc (Obj.cells #[.int .i64 i] 3) = w3 := ⟨_, rfl⟩
  obtain ⟨w4, hw4⟩ : ∃ w4, w3.alloc (Obj.cells #[stepVal (105, #[], #[.pointer (some ⟨w.heap.size + 1, 0, none⟩), .pointer (some ⟨w.heap.size, 0, none⟩)]), stepVal (110, #[], #[.pointer (some ⟨w1.heap.size, 0, none⟩), .pointer (some ⟨w1.heap.size + 1, 0, none⟩)]), stepVal (112, #[], #[.pointer (some ⟨w2.heap.size, 0, none⟩), .pointer (some ⟨w2.heap.size + 1, 0, none⟩)])] 129) = w4 := ⟨_, rfl⟩
  have g1 : Below w.heap.size w w1 := by rw [← hw1]; exact ((Below.refl _ _).alloc (Nat.le_refl _) _).alloc (by simp) _
  have g2 : Below w1.heap.size w1 w2 := by rw [← hw2]; exact ((Below.refl _ _).alloc (Nat.le_refl _) _).alloc (by simp) _
  have g3 : Below w2.heap.size w2 w3 := by rw [← hw3]; exact ((Below.refl _ _).alloc (Nat.le_refl _) _).alloc (by simp) _
  have g4 : Below w3.heap.size w3 w4 := by rw [← hw4]; exact (Below.refl _ _).alloc (Nat.le_refl _) _
  have z1 : w1.heap.size = w.heap.size + 2 := by rw [← hw1]; simp
  have z2 : w2.heap.size = w1.heap.size + 2 := by rw [← hw2]; simp
  have z3 : w3.heap.size = w2.heap.size + 2 := by rw [← hw3]; simp
  have z4 : w4.heap.size = w3.heap.size + 1 := by rw [← hw4]; simp
  have hA : HeldAt w4 w.heap.size (w.heap.size + 1) B i := by
    have h : HeldAt w1 w.heap.size (w.heap.size + 1) B i := ⟨by rw [← hw1]; exact (BoxAt.new w _ _).alloc _, by rw [← hw1]; exact boxAt_at _ _ _ _ (by simp)⟩
    exact ((h.below g2).below g3).below g4
  have hB : HeldAt w4 w1.heap.size (w1.heap.size + 1) B i := by
    have h : HeldAt w2 w1.heap.size (w1.heap.size + 1) B i := ⟨by rw [← hw2]; exact (BoxAt.new w1 _ _).alloc _, by rw [← hw2]; exact boxAt_at _ _ _ _ (by simp)⟩
    exact (h.below g3).below g4
  have hC : HeldAt w4 w2.heap.size (w2.heap.size + 1) B i := by
    have h : HeldAt w3 w2.heap.size (w2.heap.size + 1) B i := ⟨by rw [← hw3]; exact (BoxAt.new w2 _ _).alloc _, by rw [← hw3]; exact boxAt_at _ _ _ _ (by simp)⟩
    exact h.below g4
  have bL : BoxAt w4 w3.heap.size 129 #[stepVal (105, #[], #[.pointer (some ⟨w.heap.size + 1, 0, none⟩), .pointer (some ⟨w.heap.size, 0, none⟩)]), stepVal (110, #[], #[.pointer (some ⟨w1.heap.size, 0, none⟩), .pointer (some ⟨w1.heap.size + 1, 0, none⟩)]), stepVal (112, #[], #[.pointer (some ⟨w2.heap.size, 0, none⟩), .pointer (some ⟨w2.heap.size + 1, 0, none⟩)])] := by rw [← hw4]; exact BoxAt.new w3 _ _
  have hb4 : Below w.heap.size w w4 := (((g1.trans (g2.mono (by omega))).trans (g3.mono (by omega))).trans (g4.mono (by omega)))
  have hx4 : XOK (fun b => F b ∧ b < w.heap.size) w4 B s := hx0.later hb4
  have hlen := hf.len
  have hfit := hf
  have key : Calls Tryz.prog 74 #[.pointer (some ⟨B, 0, none⟩), .slice (some ⟨w3.heap.size, 0, none⟩) 3 3] w4 fun e w' => ∃ r, e = .returned (.int .i64 r) ∧ r = (workS s i).2 ∧ XOK (fun b => F b ∨ w.heap.size ≤ b) w' B (workS s i).1 ∧ Kept F w w' := by
    refine (change_calls _ B w3.heap.size 3 s w4 hx4 (fun r w' => r = (workS s i).2 ∧ XOK (fun b => F b ∨ w.heap.size ≤ b) w' B (workS s i).1 ∧ Kept F w w') (fun hov U hU => ?_)).mono ?_
    · have hwU : Below w.heap.size w U := hb4.trans (hU.mono hb4.size)
      have hxU : XOK (fun b => F b ∧ b < w.heap.size) U B s := hx4.later hU
      have hstart : startE s = 0 := by simp [startE, hd, hov]
      have keepU : ∀ W, Below U.heap.size U W → (∀ r, workS s i = (s, r) → (workS s i).2 = r ∧ XOK (fun b => F b ∨ w.heap.size ≤ b) W B (workS s i).1 ∧ Kept F w W) := fun W hW r hr => by
        rw [hr]
        refine ⟨rfl, (hxU.later hW).mono (fun b _ h => .inl h.1), Kept.of_below (hwU.trans (hW.mono hwU.size)) (fun b h1 h2 => by omega)⟩
      refine (inTurn_calls w3.heap.size 3 3 [(105, #[], #[.pointer (some ⟨w.heap.size + 1, 0, none⟩), .pointer (some ⟨w.heap.size, 0, none⟩)]), (110, #[], #[.pointer (some ⟨w1.heap.size, 0, none⟩), .pointer (some ⟨w1.heap.size + 1, 0, none⟩)]), (112, #[], #[.pointer (some ⟨w2.heap.size, 0, none⟩), .pointer (some ⟨w2.heap.size + 1, 0, none⟩)])] U rfl (by omega)
        (fun j W => if j = 0 then Below U.heap.size U W else if j = 1 then Below U.heap.size U W ∧ 0 ≤ i ∧ i < s.workers else if j = 2 then Below U.heap.size U W ∧ (0 ≤ i ∧ i < s.workers) ∧ (tasksS s i).1 ≠ [] else 0 = (workS s i).2 ∧ XOK (fun b => F b ∨ w.heap.size ≤ b) W B (workS s i).1 ∧ Kept F w W)
        (fun r W => r = (workS s i).2 ∧ XOK (fun b => F b ∨ w.heap.size ≤ b) W B (workS s i).1 ∧ Kept F w W) ?_ ?_ ?_ ?_).mono ?_
      · intro j W hJ f hf
        have hBU := bL.below hU bL.lt
        match j, hf with
        | 0, hf => cases hf; simp only [if_true] at hJ; exact (hBU.below hJ hBU.lt).cell (o := 0) rfl
        | 1, hf => cases hf; simp only [Nat.one_ne_zero, if_false, if_true] at hJ; exact (hBU.below hJ.1 hBU.lt).cell (o := 1) rfl
        | 2, hf => cases hf; simp only [show ¬ (2 : Nat) = 0 by omega, show ¬ (2 : Nat) = 1 by omega, if_false, if_true] at hJ; exact (hBU.below hJ.1 hBU.lt).cell (o := 2) rfl
        | (m + 3), hf => simp at hf
      · intro f hf args W
        simp at hf
        rcases hf with rfl | rfl | rfl
        · exact enters_of Tryz.func105 (by kernel_rfl) rfl args W
        · exact enters_of Tryz.func110 (by kernel_rfl) rfl args W
        · exact enters_of Tryz.func112 (by kernel_rfl) rfl args W
      · intro j f hf W hJ
        match j, hf with
        | 0, hf =>
          cases hf
          simp only [if_true] at hJ
          refine (isWorker1_calls _ B w.heap.size (w.heap.size + 1) s i W (hxU.later hJ) hfit ((hA.below hU).below hJ)).mono ?_
          rintro e w' ⟨rfl, hbw⟩
          have hbUw : Below U.heap.size U w' := hJ.trans (hbw.mono hJ.size)
          by_cases hin : i < 0 ∨ s.workers ≤ i
          · have hws : workS s i = (s, 7) := by simp [workS, workerE, hstart, hin]
            obtain ⟨k1, k2, k3⟩ := keepU w' hbUw 7 hws
            exact ⟨7, by rw [if_pos hin], .inr ⟨by omega, k1.symm, k2, k3⟩⟩
          · exact ⟨0, by rw [if_neg hin], .inl ⟨rfl, by simp only [Nat.zero_add, Nat.one_ne_zero, if_false, if_true]; exact ⟨hbUw, by omega⟩⟩⟩
        | 1, hf =>
          cases hf
          simp only [Nat.one_ne_zero, if_false, if_true] at hJ
          obtain ⟨hJ, hin⟩ := hJ
          obtain ⟨k, rfl⟩ := Int.eq_ofNat_of_zero_le hin.1
          have hf5 := hfit.five
          obtain ⟨x, hxk⟩ : ∃ x, s.W[k]? = some x := ⟨_, List.getElem?_eq_getElem (by omega)⟩
          have htk : (tasksS s (k : Int)).1 = x.tasks := by
            unfold tasksS
            rw [if_neg (by omega)]
            simp [hxk]
          refine (hasTask1_calls _ B w1.heap.size (w1.heap.size + 1) k s x W (hxU.later hJ) hxk (by omega) ((hB.below hU).below hJ)).mono ?_
          rintro e w' ⟨rfl, hbw⟩
          have hbUw : Below U.heap.size U w' := hJ.trans (hbw.mono hJ.size)
          by_cases hz : x.tasks.length = 0
          · have hwe : workerE s (k : Int) = 0 := by simp [workerE, hstart]; omega
            have hz' : x.tasks = [] := List.length_eq_zero_iff.1 hz
            have hws : workS s (k : Int) = (s, 8) := by simp [workS, hwe, hxk, hz']
            obtain ⟨k1, k2, k3⟩ := keepU w' hbUw 8 hws
            exact ⟨8, by rw [if_pos hz], .inr ⟨by omega, k1.symm, k2, k3⟩⟩
          · refine ⟨0, by rw [if_neg hz], .inl ⟨rfl, ?_⟩⟩
            simp only [show ¬ (1 + 1 : Nat) = 0 by omega, show ¬ (1 + 1 : Nat) = 1 by omega, show (1 + 1 : Nat) = 2 from rfl, if_false, if_true]
            exact ⟨hbUw, hin, by rw [htk]; intro h; rw [h] at hz; simp at hz⟩
        | 2, hf =>
          cases hf
          simp only [show ¬ (2 : Nat) = 0 by omega, show ¬ (2 : Nat) = 1 by omega, if_false, if_true] at hJ
          obtain ⟨hJ, hin, hne⟩ := hJ
          have hi0 : i = 0 := by
            rcases hi with h | h
            · exact h
            · exact absurd h hne
          subst hi0
          obtain ⟨x, hxk⟩ : ∃ x, s.W[0]? = some x := ⟨_, List.getElem?_eq_getElem (by omega)⟩
          have htk : (tasksS s 0).1 = x.tasks := by
            unfold tasksS
            rw [if_neg (by omega)]
            simp [hxk]
          rw [htk] at hne
          rcases List.eq_nil_or_concat x.tasks with hxt | ⟨L, t, hxt⟩
          · exact absurd hxt hne
          rw [List.concat_eq_append] at hxt
          have hwe : workerE s 0 = 0 := by simp [workerE, hstart]; omega
          have hws := workS_zero hwe hxk hxt
          have zU := hwU.size
          have zW := hJ.size
          have zUU := hU.size
          refine (doYoungest1_calls _ B w2.heap.size (w2.heap.size + 1) s x L t W (hxU.later hJ) hfit hxk hxt hv ((hC.below hU).below hJ) ⟨fun h => by omega, fun h => by omega⟩).mono ?_
          rintro e w' ⟨rfl, k2, k3⟩
          have hxw : XOK (fun b => F b ∨ w.heap.size ≤ b) w' B (workS s 0).1 := by rw [hws]; exact k2.mono (fun b _ h => by rcases h with h | h; exact .inl h.1; exact .inr (by omega))
          have hkw : Kept F w w' := (Kept.of_below (hwU.trans (hJ.mono zU)) (X := F) (fun b h1 h2 => by omega)).andThen k3 (fun b _ h => h.1)
          refine ⟨(doneS s x L t).2, rfl, ?_⟩
          by_cases hr : (doneS s x L t).2 = 0
          · refine .inl ⟨hr, ?_⟩
            simp only [show ¬ (2 + 1 : Nat) = 0 by omega, show ¬ (2 + 1 : Nat) = 1 by omega, show ¬ (2 + 1 : Nat) = 2 by omega, if_false]
            exact ⟨by rw [hws, hr], hxw, hkw⟩
          · exact .inr ⟨hr, by rw [hws], hxw, hkw⟩
        | (m + 3), hf => simp at hf
      · exact Below.refl _ _
      · rintro e w' ⟨r, rfl, hr⟩
        refine ⟨r, rfl, ?_⟩
        rcases hr with ⟨rfl, h2⟩ | ⟨_, h2⟩
        · simp only [show ¬ (3 : Nat) = 0 by omega, show ¬ (3 : Nat) = 1 by omega, show ¬ (3 : Nat) = 2 by omega, if_false] at h2
          exact h2
        · exact h2
    · rintro e w' ⟨r, rfl, hr⟩
      refine ⟨r, rfl, ?_⟩
      rcases hr with ⟨ho, rfl, hb⟩ | ⟨_, h2⟩
      · have hws : workS s i = (s, 6) := by simp [workS, workerE, startE, hd, ho]
        rw [hws]
        exact ⟨rfl, (hx4.later hb).mono (fun b _ h => .inl h.1), Kept.of_below (hb4.trans (hb.mono hb4.size)) (fun b h1 h2 => by omega)⟩
      · exact h2
  have HKEY := hid_of key
  have HW1 := hid_of hw1
  have HW2 := hid_of hw2
  have HW3 := hid_of hw3
  have HW4 := hid_of hw4
  obtain ⟨res, hres⟩ : ∃ res, workS s i = res := ⟨_, rfl⟩
  rw [hres] at HKEY ⊢
  clear key hw1 hw2 hw3 hw4 hx hx0 hx4 hA hB hC bL hb4 g1 g2 g3 g4 z1 z2 z3 z4 hf hfit hlen hi hres
  go_enter Tryz.func31, Tryz.ntmps31
  go_wp2_with (first
    | (go_at_call 71; refine (isWorker_calls (some ⟨B, 0, none⟩) i w).mono ?_; rintro e a1 ⟨rfl, hq⟩; obtain rfl : w1 = a1 := HW1.out.symm.trans hq.symm; clear hq)
    | (go_at_call 75; refine (hasTask_calls (some ⟨B, 0, none⟩) i w1).mono ?_; rintro e a2 ⟨rfl, hq⟩; obtain rfl : w2 = a2 := HW2.out.symm.trans hq.symm; clear hq)
    | (go_at_call 76; refine (doYoungest_calls (some ⟨B, 0, none⟩) i w2).mono ?_; rintro e a3 ⟨rfl, hq⟩; obtain rfl : w3 = a3 := HW3.out.symm.trans hq.symm; clear hq)
    | (go_at_call 74; refine Calls.at_world HW4.out ?_; refine HKEY.out.mono ?_; rintro e a4 ⟨r, rfl, hr, k2, k3⟩; subst hr))
  go_ret
  exact ⟨rfl, k2, k3⟩
end Go.Proofs.YtgbneeohaboncaaGreatDoor
/-
  Run.Tasks of the project, of a run that is nil and of one in memory: a worker's tasks in a new list.
-/
namespace Go.Proofs.YtgbneeohaboncaaGreatDoor
open Go Go.RowKit Go.Maps

theorem x_tasks_nil (i : Int) (w : World) : Calls Tryz.prog 26 #[.pointer none, .int .i64 i] w fun e w' => e = .returned (.tuple #[.slice none 0 0, .int .i64 1]) ∧ Below w.heap.size w w' := by
  go_enter Tryz.func26, Tryz.ntmps26
  go_wp2_with (first
    | (go_at_call 71; refine (isWorker_calls none i w).mono ?_; rintro e w1 ⟨rfl, hw1⟩; have HW1 := hid_of hw1; clear hw1)
    | (go_at_call 70; refine (ask_nil _ _).mono ?_; rintro e w4 ⟨rfl, hw4⟩; have HW4 := hid_of hw4; clear hw4))
  go_ret2
  have h1 : Below w.heap.size w w1 := by rw [HW1.out]; exact ((Below.refl _ _).alloc (Nat.le_refl _) _).alloc (by simp) _
  exact ⟨rfl, by rw [HW4.out]; exact h1.alloc h1.size _⟩
theorem values_calls (a : Option Addr) (n c : Nat) (w : World) : Calls Tryz.prog 107 #[.slice a n c] w fun e w' => e = .returned (.func (.func 125) #[] #[.pointer (some ⟨w.heap.size, 0, none⟩)]) ∧ w' = w.alloc (Obj.cells #[.slice a n c] 52) := by
  go_enter Tryz.func107, Tryz.ntmps107
  go_wp2_with fail
  go_ret
  exact ⟨rfl, rfl⟩
theorem all_calls (X : Nat → Prop) (T : Nat) (room : Int) (l : List TaskS) (w : World) (ht : TaskListAt X w T room l) : Calls Tryz.prog 73 #[.pointer (some ⟨T, 0, none⟩)] w fun e w' => ∃ Bs v, e = .returned (.func (.func 125) #[] #[.pointer (some ⟨Bs, 0, none⟩)]) ∧ BoxAt w' Bs 52 #[v] ∧ ListAt 3 taskEnc w' v l ∧ w.heap.size ≤ Bs ∧ Below w.heap.size w w' := by
  obtain ⟨tv, hb, -, hr⟩ := ht
  have hL : ListAt 3 taskEnc w tv l := list_of_row (sz := 3) (enc := taskEnc) (fun _ => rfl) hr.1 rfl
  obtain ⟨ta, tc, rfl⟩ := row_form hr.1
  have b0 := hb.cell (o := 0) rfl
  have HL := hid_of hL
  clear hb hr hL
  go_enter Tryz.func73, Tryz.ntmps73
  go_wp2_with (go_at_call 107; refine (values_calls _ _ _ w).mono ?_; rintro e w1 ⟨rfl, hw1⟩; have HW1 := hid_of hw1; clear hw1)
  go_ret
  have h1 : Below w.heap.size w w1 := by rw [HW1.out]; exact (Below.refl _ _).alloc (Nat.le_refl _) _
  exact ⟨_, _, rfl, by rw [HW1.out]; exact BoxAt.new w _ _, HL.out.below h1 (Nat.le_refl _), Nat.le_refl _, h1⟩
set_option maxHeartbeats 2000000 in
set_option maxRecDepth 100000 in
theorem x_tasks_calls (F : Nat → Prop) (B : Nat) (s : RunS) (i : Int) (w : World) (hx : XOK F w B s) (hf : Fits s) :
    Calls Tryz.prog 26 #[.pointer (some ⟨B, 0, none⟩), .int .i64 i] w fun e w' => ∃ v, e = .returned (.tuple #[v, .int .i64 (tasksS s i).2]) ∧
      w'.ownsRow w.heap.size 76 3 v (tasksS s i).1.length ((tasksS s i).1.flatMap taskEnc) ∧ Below w.heap.size w w' := by
  obtain ⟨w1, hw1⟩ : ∃ w1, (w.alloc (Obj.cells #[.pointer (some ⟨B, 0, none⟩)] 37)).alloc (Obj.cells #[.int .i64 i] 3) = w1 := ⟨_, rfl⟩
  obtain ⟨w4, hw4⟩ : ∃ w4, w1.alloc (Obj.cells #[stepVal (105, #[], #[.pointer (some ⟨w.heap.size + 1, 0, none⟩), .pointer (some ⟨w.heap.size, 0, none⟩)])] 129) = w4 := ⟨_, rfl⟩
  have g1 : Below w.heap.size w w1 := by rw [← hw1]; exact ((Below.refl _ _).alloc (Nat.le_refl _) _).alloc (by simp) _
  have g4 : Below w1.heap.size w1 w4 := by rw [← hw4]; exact (Below.refl _ _).alloc (Nat.le_refl _) _
  have hA : HeldAt w4 w.heap.size (w.heap.size + 1) B i := by
    have h : HeldAt w1 w.heap.size (w.heap.size + 1) B i := ⟨by rw [← hw1]; exact (BoxAt.new w _ _).alloc _, by rw [← hw1]; exact boxAt_at _ _ _ _ (by simp)⟩
    exact h.below g4
  have bL : BoxAt w4 w1.heap.size 129 #[stepVal (105, #[], #[.pointer (some ⟨w.heap.size + 1, 0, none⟩), .pointer (some ⟨w.heap.size, 0, none⟩)])] := by rw [← hw4]; exact BoxAt.new w1 _ _
  have hb4 : Below w.heap.size w w4 := g1.trans (g4.mono g1.size)
  have hx4 : XOK F w4 B s := hx.later hb4
  have hlen := hf.len
  have key : Calls Tryz.prog 70 #[.pointer (some ⟨B, 0, none⟩), .slice (some ⟨w1.heap.size, 0, none⟩) 1 1] w4 fun e w' => ∃ r, e = .returned (.int .i64 r) ∧ r = (if i < 0 ∨ s.workers ≤ i then (7 : Int) else 0) ∧ Below w4.heap.size w4 w' := by
    refine ask_calls B _ w4 (fun r w' => r = (if i < 0 ∨ s.workers ≤ i then (7 : Int) else 0) ∧ Below w4.heap.size w4 w') ?_
    refine (inTurn_calls w1.heap.size 1 1 [(105, #[], #[.pointer (some ⟨w.heap.size + 1, 0, none⟩), .pointer (some ⟨w.heap.size, 0, none⟩)])] w4 rfl (by omega)
      (fun j W => if j = 0 then Below w4.heap.size w4 W else 0 = (if i < 0 ∨ s.workers ≤ i then (7 : Int) else 0) ∧ Below w4.heap.size w4 W) (fun r W => r = (if i < 0 ∨ s.workers ≤ i then (7 : Int) else 0) ∧ Below w4.heap.size w4 W) ?_ ?_ ?_ ?_).mono ?_
    · intro j W hJ f hf
      match j, hf with
      | 0, hf => cases hf; simp only [if_true] at hJ; exact (bL.below hJ bL.lt).cell (o := 0) rfl
      | (m + 1), hf => simp at hf
    · intro f hf args W
      simp at hf
      subst hf
      exact enters_of Tryz.func105 (by kernel_rfl) rfl args W
    · intro j f hfj W hJ
      match j, hfj with
      | 0, hfj =>
        cases hfj
        simp only [if_true] at hJ
        refine (isWorker1_calls F B w.heap.size (w.heap.size + 1) s i W (hx4.later hJ) hf (hA.below hJ)).mono ?_
        rintro e w' ⟨rfl, hbw⟩
        have hbUw : Below w4.heap.size w4 w' := hJ.trans (hbw.mono hJ.size)
        by_cases hin : i < 0 ∨ s.workers ≤ i
        · exact ⟨7, by rw [if_pos hin], .inr ⟨by omega, by rw [if_pos hin], hbUw⟩⟩
        · exact ⟨0, by rw [if_neg hin], .inl ⟨rfl, by simp only [Nat.zero_add, Nat.one_ne_zero, if_false]; exact ⟨by rw [if_neg hin], hbUw⟩⟩⟩
      | (m + 1), hfj => simp at hfj
    · exact Below.refl _ _
    · rintro e w' ⟨r, rfl, hr⟩
      refine ⟨r, rfl, ?_⟩
      rcases hr with ⟨rfl, h2⟩ | ⟨_, h2⟩
      · simpa using h2
      · exact h2
  have HKEY := hid_of key
  have HW1 := hid_of hw1
  have HW4 := hid_of hw4
  have HB4 := hid_of hb4
  clear key hw1 hw4 hA bL hb4 g1 g4
  by_cases hin : i < 0 ∨ s.workers ≤ i
  · have ht : tasksS s i = ([], 7) := by unfold tasksS; rw [if_pos hin]
    rw [ht]
    rw [if_pos hin] at HKEY
    clear ht hx hx4 hf hin hlen
    go_enter Tryz.func26, Tryz.ntmps26
    go_wp2_with (first
      | (go_at_call 71; refine (isWorker_calls (some ⟨B, 0, none⟩) i w).mono ?_; rintro e a1 ⟨rfl, hq⟩; obtain rfl : w1 = a1 := HW1.out.symm.trans hq.symm; clear hq)
      | (go_at_call 70; refine Calls.at_world HW4.out ?_; refine HKEY.out.mono ?_; rintro e a4 ⟨r, rfl, rfl, k2⟩))
    go_ret2
    exact ⟨_, rfl, World.ownsRow_nil _ _ _ _, HB4.out.trans (k2.mono HB4.out.size)⟩
  · obtain ⟨k, rfl⟩ := Int.eq_ofNat_of_zero_le (show 0 ≤ i by omega)
    obtain ⟨x, hxk⟩ : ∃ x, s.W[k]? = some x := ⟨_, List.getElem?_eq_getElem (by omega)⟩
    have ht : tasksS s (k : Int) = (x.tasks, 0) := by unfold tasksS; rw [if_neg hin]; simp [hxk]
    have hxl : (x.tasks.length : Int) ≤ 20 := by have h1 := hf.few x (List.mem_of_getElem? hxk); have := hf.rmax; omega
    rw [ht]
    rw [if_neg hin] at HKEY
    obtain ⟨part, kv, g, c, M, T, D, xs, y, -, hb, -, -, hrw, -, -, -, -, -, -, -, htl, hc, hkl⟩ := x_worker hx hxk
    have hgl := (hrw.1.lt g rfl).2
    have HB := hid_of hb
    have HTL := hid_of htl
    have HC := hid_of hc
    have hbl := hb.lt
    have j1 : (0 : Int) ≤ (k : Int) := by omega
    have j2 : (k : Int) < (xs.length : Int) := by omega
    clear ht hx hx4 hf hin hlen hb htl hc hrw hxk
    go_enter Tryz.func26, Tryz.ntmps26
    go_upto_region 4 with (first
      | (go_at_call 71; refine (isWorker_calls (some ⟨B, 0, none⟩) k w).mono ?_; rintro e a1 ⟨rfl, hq⟩; obtain rfl : w1 = a1 := HW1.out.symm.trans hq.symm; clear hq)
      | (go_at_call 70; refine Calls.at_world HW4.out ?_; refine HKEY.out.mono ?_; rintro e w5 ⟨r, rfl, rfl, k2⟩))
    have hb5 : Below w.heap.size w w5 := HB4.out.trans (k2.mono HB4.out.size)
    have s5 := hb5.size
    have b3 := (HB.out.below hb5 hbl).cell (o := 3) rfl
    have e0 := (hb5.cell (p := ⟨g, k * 3, none⟩) hgl).trans HC.out
    have HB5 := hid_of hb5
    have HALL := hid_of (all_calls _ T s.room x.tasks w5 (HTL.out.kept (Kept.of_below hb5 (X := fun b => w.heap.size ≤ b) (fun _ _ h => h)) (fun g hg h => ⟨by omega, h⟩)))
    have HCO : Hid (∀ w6 Bs v6, BoxAt w6 Bs 52 #[v6] → ListAt 3 taskEnc w6 v6 x.tasks → Calls Tryz.prog 72 #[.func (.func 125) #[] #[.pointer (some ⟨Bs, 0, none⟩)]] w6 fun e w' => ∃ v, e = .returned v ∧ w'.ownsRow w6.heap.size 76 3 v x.tasks.length (x.tasks.flatMap taskEnc) ∧ Below w6.heap.size w6 w') := fun w6 Bs v6 hBs hL6 => by
      refine collect_calls _ _ x.tasks w6 (by omega) (enters_of Tryz.func125 (by kernel_rfl) rfl) (fun n X W hW hX => values1_seqY n Bs X v6 x.tasks W (hBs.below hW hBs.lt) (hL6.below hW (Nat.le_refl _)) (fun g' o m c' e hm hXg => ?_) (by omega))
      obtain ⟨a9, c9, h9, hc9⟩ := hL6
      rw [h9] at e
      simp only [Value.slice.injEq] at e
      obtain ⟨g9, o9, ha9, hg9, _⟩ := hc9 0 _ (List.getElem?_eq_getElem (show 0 < x.tasks.length by omega))
      rw [ha9] at e
      have := hX g' hXg
      simp at e
    clear k2 hb5
    go_wp2_with (first
      | (go_at_call 73; refine HALL.out.mono ?_; rintro e w6 ⟨Bs, v6, rfl, hBs, hL6, hBl, hb6⟩)
      | (go_at_call 72; refine (HCO.out w6 Bs v6 hBs hL6).mono ?_; rintro e w7 ⟨v7, rfl, hrow7, hb7⟩))
    go_ret2
    have s6 := hb6.size
    refine ⟨_, rfl, ownsRow_base hrow7 (by omega), (HB5.out.trans (hb6.mono s5)).trans (hb7.mono (by omega))⟩
end Go.Proofs.YtgbneeohaboncaaGreatDoor
