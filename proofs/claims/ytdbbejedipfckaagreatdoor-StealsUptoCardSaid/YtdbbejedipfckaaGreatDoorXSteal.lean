/-
  Run.Work and Run.Tasks of the project, of a run that is nil and of one in memory: the document's answer as plain data.
-/
import Derived.Test.YtdbbejedipfckaaGreatDoorXYoung
import Derived.Test.YtdbbejedipfckaaGreatDoorRefWork2
import Derived.Test.YtdbbejedipfckaaGreatDoorXSend
import Derived.StillTailTactics
namespace Go.Proofs.YtdbbejedipfckaaGreatDoor
open Go Go.RowKit Go.Maps

theorem ask_nil (v : Value) (w : World) : Calls Tryz.prog 71 #[.pointer none, v] w fun e w' => e = .returned (.int .i64 1) ∧ w' = w := by
  go_enter Tryz.func71, Tryz.ntmps71
  go_wp2_with fail
  go_ret
  exact ⟨rfl, rfl⟩
theorem ask_calls (B : Nat) (v : Value) (w : World) (R : Int → World → Prop) (h : Calls Tryz.prog 114 #[v] w fun e w' => ∃ r, e = .returned (.int .i64 r) ∧ R r w') :
    Calls Tryz.prog 71 #[.pointer (some ⟨B, 0, none⟩), v] w fun e w' => ∃ r, e = .returned (.int .i64 r) ∧ R r w' := by
  have H := hid_of h
  clear h
  go_enter Tryz.func71, Tryz.ntmps71
  go_wp2_with (go_at_call 114; refine H.out.mono ?_; rintro e w1 ⟨r, rfl, hr⟩)
  go_ret
  exact ⟨r, rfl, hr⟩
theorem change1_calls (Bs : Nat) (v : Value) (w : World) (R : Int → World → Prop) (hb : BoxAt w Bs 165 #[v]) (h : Calls Tryz.prog 114 #[v] w fun e w' => ∃ r, e = .returned (.int .i64 r) ∧ R r w') :
    Calls Tryz.prog 119 #[.pointer (some ⟨Bs, 0, none⟩)] w fun e w' => ∃ r, e = .returned (.int .i64 r) ∧ R r w' := by
  have H := hid_of h
  have b0 := hb.cell (o := 0) rfl
  clear h hb
  go_enter Tryz.func119, Tryz.ntmps119
  go_wp2_with (go_at_call 114; refine H.out.mono ?_; rintro e w1 ⟨r, rfl, hr⟩)
  go_ret
  exact ⟨r, rfl, hr⟩
theorem change_nil (g n : Nat) (w : World) : Calls Tryz.prog 75 #[.pointer none, .slice (some ⟨g, 0, none⟩) n n] w fun e w' => e = .returned (.int .i64 1) ∧ Below w.heap.size w w' := by
  go_enter Tryz.func75, Tryz.ntmps75
  go_wp2_with (go_at_call 71; refine (ask_nil _ _).mono ?_; rintro e w1 ⟨rfl, rfl⟩)
  go_ret
  exact ⟨rfl, ((Below.refl _ _).alloc (Nat.le_refl _) _).alloc (by simp) _⟩
set_option maxHeartbeats 1000000 in
set_option maxRecDepth 100000 in
theorem change_calls (F : Nat → Prop) (B g n : Nat) (s : RunS) (w : World) (hx : XOK F w B s) (R : Int → World → Prop) (h : s.over = false → ∀ U, Below w.heap.size w U → Calls Tryz.prog 114 #[.slice (some ⟨g, 0, none⟩) n n] U fun e w' => ∃ r, e = .returned (.int .i64 r) ∧ R r w') :
    Calls Tryz.prog 75 #[.pointer (some ⟨B, 0, none⟩), .slice (some ⟨g, 0, none⟩) n n] w fun e w' => ∃ r, e = .returned (.int .i64 r) ∧ ((s.over = true ∧ r = 6 ∧ Below w.heap.size w w') ∨ (s.over = false ∧ R r w')) := by
  obtain ⟨V, hV⟩ : ∃ V, (w.alloc (Obj.cells #[.slice (some ⟨g, 0, none⟩) n n] 165)).alloc (Obj.cells #[.func (.func 118) #[.pointer (some ⟨B, 0, none⟩)] #[], .func (.func 119) #[] #[.pointer (some ⟨w.heap.size, 0, none⟩)]] 129) = V := ⟨_, rfl⟩
  have hbV : Below w.heap.size w V := by rw [← hV]; exact ((Below.refl _ _).alloc (Nat.le_refl _) _).alloc (by simp) _
  have bS : BoxAt V w.heap.size 165 #[.slice (some ⟨g, 0, none⟩) n n] := by rw [← hV]; exact (BoxAt.new w _ _).alloc _
  have bL : BoxAt V (w.heap.size + 1) 129 #[.func (.func 118) #[.pointer (some ⟨B, 0, none⟩)] #[], .func (.func 119) #[] #[.pointer (some ⟨w.heap.size, 0, none⟩)]] := by rw [← hV]; exact boxAt_at _ _ _ _ (by simp)
  have HT := hid_of (ask_calls B (.slice (some ⟨w.heap.size + 1, 0, none⟩) 2 2) V (fun r w' => (s.over = true ∧ r = 6 ∧ Below w.heap.size w w') ∨ (s.over = false ∧ R r w')) (by
    refine (inTurn_calls (w.heap.size + 1) 2 2 [(118, #[.pointer (some ⟨B, 0, none⟩)], #[]), (119, #[], #[.pointer (some ⟨w.heap.size, 0, none⟩)])] V rfl (by omega)
      (fun i W => if i = 0 then Below V.heap.size V W else if i = 1 then Below V.heap.size V W ∧ s.over = false else s.over = false ∧ R 0 W)
      (fun r W => (s.over = true ∧ r = 6 ∧ Below w.heap.size w W) ∨ (s.over = false ∧ R r W)) ?_ ?_ ?_ ?_).mono ?_
    · intro i W hJ f hf
      match i, hf with
      | 0, hf => cases hf; simp only [if_true] at hJ; exact (bL.below hJ bL.lt).cell (o := 0) rfl
      | 1, hf => cases hf; simp only [Nat.one_ne_zero, if_false, if_true] at hJ; exact (bL.below hJ.1 bL.lt).cell (o := 1) rfl
      | (m + 2), hf => simp at hf
    · intro f hf args W
      simp at hf
      rcases hf with rfl | rfl
      · exact enters_of Tryz.func118 (by kernel_rfl) rfl args W
      · exact enters_of Tryz.func119 (by kernel_rfl) rfl args W
    · intro i f hf W hJ
      match i, hf with
      | 0, hf =>
        cases hf
        simp only [if_true] at hJ
        refine (hadRoom_calls F B s W ((hx.later hbV).later hJ)).mono ?_
        rintro e w' ⟨rfl, rfl⟩
        cases ho : s.over
        · exact ⟨0, rfl, .inl ⟨rfl, by simpa [ho] using hJ⟩⟩
        · exact ⟨6, rfl, .inr ⟨by omega, .inl ⟨rfl, rfl, hbV.trans (hJ.mono hbV.size)⟩⟩⟩
      | 1, hf =>
        cases hf
        simp only [Nat.one_ne_zero, if_false, if_true] at hJ
        refine (change1_calls w.heap.size _ W R (bS.below hJ.1 bS.lt) (h hJ.2 W (hbV.trans (hJ.1.mono hbV.size)))).mono ?_
        rintro e w' ⟨r, rfl, hr⟩
        by_cases hr0 : r = 0
        · subst hr0
          exact ⟨0, rfl, .inl ⟨rfl, by simpa using ⟨hJ.2, hr⟩⟩⟩
        · exact ⟨r, rfl, .inr ⟨hr0, .inr ⟨hJ.2, hr⟩⟩⟩
      | (m + 2), hf => simp at hf
    · exact Below.refl _ _
    · rintro e w' ⟨r, rfl, hr⟩
      refine ⟨r, rfl, ?_⟩
      rcases hr with ⟨rfl, h2⟩ | ⟨_, h2⟩
      · simp only [show ¬ (2 : Nat) = 0 by omega, show ¬ (2 : Nat) = 1 by omega, if_false] at h2
        exact .inr h2
      · exact h2))
  clear h hx
  go_enter Tryz.func75, Tryz.ntmps75
  go_wp2_with (go_at_call 71; refine HT.out.mono ?_; rintro e w1 ⟨r, rfl, hr⟩)
  go_ret
  exact ⟨r, rfl, hr⟩

theorem Calls.at_world {P : Program} {f : Nat} {args : Array Value} {w w' : World} {Q : Ending → World → Prop} (h : w = w') (hc : Calls P f args w' Q) : Calls P f args w Q := by subst h; exact hc
theorem workS_zero {s : RunS} {x : WorkerS} {L : List TaskS} {t : TaskS} (hw : workerE s 0 = 0) (hk : s.W[0]? = some x) (hxt : x.tasks = L ++ [t]) : workS s 0 = doneS s x L t := by
  simp only [workS, hw, ne_eq, not_true_eq_false, if_false, Int.toNat_zero, hk, hxt, List.getLast?_append, List.getLast?_singleton, Option.some_or, List.length_append, List.length_singleton, List.dropLast_concat, doneS]
  have e : ((L.length + 1 : Nat) : Int) - 1 + ((children s.ks t).length : Int) = (L.length : Int) + ((children s.ks t).length : Int) := by omega
  rw [e]
  rfl
theorem XOK.low {F : Nat → Prop} {w : World} {B : Nat} {s : RunS} (h : XOK F w B s) : XOK (fun b => F b ∧ b < w.heap.size) w B s := h.kept (Kept.refl (fun _ => False) w) (fun _ hg hF => ⟨fun h => h, hF, hg⟩)
theorem XOK.mono {F F' : Nat → Prop} {w : World} {B : Nat} {s : RunS} (h : XOK F w B s) (hF : ∀ b, b < w.heap.size → F b → F' b) : XOK F' w B s := h.kept (Kept.refl (fun _ => False) w) (fun b hb h => ⟨fun h => h, hF b hb h⟩)
set_option maxHeartbeats 2000000 in
set_option maxRecDepth 100000 in
theorem x_work_nil (i : Int) (w : World) : Calls Tryz.prog 32 #[.pointer none, .int .i64 i] w fun e w' => e = .returned (.int .i64 1) ∧ Below w.heap.size w w' := by
  go_enter Tryz.func32, Tryz.ntmps32
  go_wp2_with (first
    | (go_at_call 72; refine (isWorker_calls none i w).mono ?_; rintro e w1 ⟨rfl, hw1⟩; have HW1 := hid_of hw1; clear hw1)
    | (go_at_call 76; refine (hasTask_calls none i w1).mono ?_; rintro e w2 ⟨rfl, hw2⟩; have HW2 := hid_of hw2; clear hw2)
    | (go_at_call 77; refine (doYoungest_calls none i w2).mono ?_; rintro e w3 ⟨rfl, hw3⟩; have HW3 := hid_of hw3; clear hw3)
    | (go_at_call 75; refine (change_nil _ _ _).mono ?_; rintro e w4 ⟨rfl, hb4⟩))
  go_ret
  refine ⟨rfl, ?_⟩
  have h1 : Below w.heap.size w w1 := by rw [HW1.out]; exact ((Below.refl _ _).alloc (Nat.le_refl _) _).alloc (by simp) _
  have h2 : Below w1.heap.size w1 w2 := by rw [HW2.out]; exact ((Below.refl _ _).alloc (Nat.le_refl _) _).alloc (by simp) _
  have h3 : Below w2.heap.size w2 w3 := by rw [HW3.out]; exact ((Below.refl _ _).alloc (Nat.le_refl _) _).alloc (by simp) _
  have e1 := h1.size
  have e2 := h2.size
  have e3 := h3.size
  exact (((h1.trans (h2.mono e1)).trans (h3.mono (by omega))).alloc (by omega) _).trans (hb4.mono (by simp; omega))
set_option maxHeartbeats 4000000 in
set_option maxRecDepth 100000 in
theorem x_work_calls (F : Nat → Prop) (B : Nat) (s : RunS) (i : Int) (w : World) (hx : XOK F w B s) (hf : Fits s) (hd : s.done = false) (hv : s.values.length ≤ 900000) (hi : i = 0 ∨ (tasksS s i).1 = []) :
    Calls Tryz.prog 32 #[.pointer (some ⟨B, 0, none⟩), .int .i64 i] w fun e w' => e = .returned (.int .i64 (workS s i).2) ∧ XOK (fun b => F b ∨ w.heap.size ≤ b) w' B (workS s i).1 ∧ Kept F w w' := by
  have hx0 := hx.low
  -- the worlds in which the steps are made
  obtain ⟨w1, hw1⟩ : ∃ w1, (w.alloc (Obj.cells #[.pointer (some ⟨B, 0, none⟩)] 37)).alloc (Obj.cells #[.int .i64 i] 3) = w1 := ⟨_, rfl⟩
  obtain ⟨w2, hw2⟩ : ∃ w2, (w1.alloc (Obj.cells #[.pointer (some ⟨B, 0, none⟩)] 37)).alloc (Obj.cells #[.int .i64 i] 3) = w2 := ⟨_, rfl⟩
  obtain ⟨w3, hw3⟩ : ∃ w3, (w2.alloc (Obj.cells #[.pointer (some ⟨B, 0, none⟩)] 37)).alloc (Obj.cells #[.int .i64 i] 3) = w3 := ⟨_, rfl⟩
  obtain ⟨w4, hw4⟩ : ∃ w4, w3.alloc (Obj.cells #[stepVal (115, #[], #[.pointer (some ⟨w.heap.size + 1, 0, none⟩), .pointer (some ⟨w.heap.size, 0, none⟩)]), stepVal (120, #[], #[.pointer (some ⟨w1.heap.size, 0, none⟩), .pointer (some ⟨w1.heap.size + 1, 0, none⟩)]), stepVal (122, #[], #[.pointer (some ⟨w2.heap.size, 0, none⟩), .pointer (some ⟨w2.heap.size + 1, 0, none⟩)])] 129) = w4 := ⟨_, rfl⟩
  have g1 : Below w.heap.size w w1 := by rw [← hw1]; exact ((Below.refl _ _).alloc (Nat.le_refl _) _).alloc (by simp) _
  have g2 : Below w1.heap.size w1 w2 := by rw [← hw2]; exact ((Below.refl _ _).alloc (Nat.le_refl _) _).alloc (by simp) _
  have g3 : Below w2.heap.size w2 w3 := by rw [← hw3]; exact ((Below.refl _ _).alloc (Nat.le_refl _) _).alloc (by simp) _
  have g4 : Below w3.heap.size w3 w4 := by rw [← hw4]; exact (Below.refl _ _).alloc (Nat.le_refl _) _
  have z1 : w1.heap.size = w.heap.size + 2 := by rw [← hw1]; simp
  have z2 : w2.heap.size = w1.heap.size + 2 := by rw [← hw2]; simp
  have z3 : w3.heap.size = w2.heap.size + 2 := by rw [← hw3]; simp
  have z4 : w4.heap.size = w3.heap.size + 1 := by rw [← hw4]; simp
  have hA : HeldAt w4 w.heap.size (w.heap.size + 1) B i := by
    have h : HeldAt w1 w.heap.size (w.heap.size + 1) B i := ⟨by rw [← hw1]; exact (BoxAt.new w _ _).alloc _, by rw [← hw1]; exact boxAt_at _ _ _ _ (by simp)⟩
    exact ((h.below g2).below g3).below g4
  have hB : HeldAt w4 w1.heap.size (w1.heap.size + 1) B i := by
    have h : HeldAt w2 w1.heap.size (w1.heap.size + 1) B i := ⟨by rw [← hw2]; exact (BoxAt.new w1 _ _).alloc _, by rw [← hw2]; exact boxAt_at _ _ _ _ (by simp)⟩
    exact (h.below g3).below g4
  have hC : HeldAt w4 w2.heap.size (w2.heap.size + 1) B i := by
    have h : HeldAt w3 w2.heap.size (w2.heap.size + 1) B i := ⟨by rw [← hw3]; exact (BoxAt.new w2 _ _).alloc _, by rw [← hw3]; exact boxAt_at _ _ _ _ (by simp)⟩
    exact h.below g4
  have bL : BoxAt w4 w3.heap.size 129 #[stepVal (115, #[], #[.pointer (some ⟨w.heap.size + 1, 0, none⟩), .pointer (some ⟨w.heap.size, 0, none⟩)]), stepVal (120, #[], #[.pointer (some ⟨w1.heap.size, 0, none⟩), .pointer (some ⟨w1.heap.size + 1, 0, none⟩)]), stepVal (122, #[], #[.pointer (some ⟨w2.heap.size, 0, none⟩), .pointer (some ⟨w2.heap.size + 1, 0, none⟩)])] := by rw [← hw4]; exact BoxAt.new w3 _ _
  have hb4 : Below w.heap.size w w4 := (((g1.trans (g2.mono (by omega))).trans (g3.mono (by omega))).trans (g4.mono (by omega)))
  have hx4 : XOK (fun b => F b ∧ b < w.heap.size) w4 B s := hx0.later hb4
  have hlen := hf.len
  have hfit := hf
  have key : Calls Tryz.prog 75 #[.pointer (some ⟨B, 0, none⟩), .slice (some ⟨w3.heap.size, 0, none⟩) 3 3] w4 fun e w' => ∃ r, e = .returned (.int .i64 r) ∧ r = (workS s i).2 ∧ XOK (fun b => F b ∨ w.heap.size ≤ b) w' B (workS s i).1 ∧ Kept F w w' := by
    refine (change_calls _ B w3.heap.size 3 s w4 hx4 (fun r w' => r = (workS s i).2 ∧ XOK (fun b => F b ∨ w.heap.size ≤ b) w' B (workS s i).1 ∧ Kept F w w') (fun hov U hU => ?_)).mono ?_
    · have hwU : Below w.heap.size w U := hb4.trans (hU.mono hb4.size)
      have hxU : XOK (fun b => F b ∧ b < w.heap.size) U B s := hx4.later hU
      have hstart : startE s = 0 := by simp [startE, hd, hov]
      have keepU : ∀ W, Below U.heap.size U W → (∀ r, workS s i = (s, r) → (workS s i).2 = r ∧ XOK (fun b => F b ∨ w.heap.size ≤ b) W B (workS s i).1 ∧ Kept F w W) := fun W hW r hr => by
        rw [hr]
        refine ⟨rfl, (hxU.later hW).mono (fun b _ h => .inl h.1), Kept.of_below (hwU.trans (hW.mono hwU.size)) (fun b h1 h2 => by omega)⟩
      refine (inTurn_calls w3.heap.size 3 3 [(115, #[], #[.pointer (some ⟨w.heap.size + 1, 0, none⟩), .pointer (some ⟨w.heap.size, 0, none⟩)]), (120, #[], #[.pointer (some ⟨w1.heap.size, 0, none⟩), .pointer (some ⟨w1.heap.size + 1, 0, none⟩)]), (122, #[], #[.pointer (some ⟨w2.heap.size, 0, none⟩), .pointer (some ⟨w2.heap.size + 1, 0, none⟩)])] U rfl (by omega)
        (fun j W => if j = 0 then Below U.heap.size U W else if j = 1 then Below U.heap.size U W ∧ 0 ≤ i ∧ i < s.workers else if j = 2 then Below U.heap.size U W ∧ (0 ≤ i ∧ i < s.workers) ∧ (tasksS s i).1 ≠ [] else 0 = (workS s i).2 ∧ XOK (fun b => F b ∨ w.heap.size ≤ b) W B (workS s i).1 ∧ Kept F w W)
        (fun r W => r = (workS s i).2 ∧ XOK (fun b => F b ∨ w.heap.size ≤ b) W B (workS s i).1 ∧ Kept F w W) ?_ ?_ ?_ ?_).mono ?_
      · intro j W hJ f hf
        have hBU := bL.below hU bL.lt
        match j, hf with
        | 0, hf => cases hf; simp only [if_true] at hJ; exact (hBU.below hJ hBU.lt).cell (o := 0) rfl
        | 1, hf => cases hf; simp only [Nat.one_ne_zero, if_false, if_true] at hJ; exact (hBU.below hJ.1 hBU.lt).cell (o := 1) rfl
        | 2, hf => cases hf; simp only [show ¬ (2 : Nat) = 0 by omega, show ¬ (2 : Nat) = 1 by omega, if_false, if_true] at hJ; exact (hBU.below hJ.1 hBU.lt).cell (o := 2) rfl
        | (m + 3), hf => simp at hf
      · intro f hf args W
        simp at hf
        rcases hf with rfl | rfl | rfl
        · exact enters_of Tryz.func115 (by kernel_rfl) rfl args W
        · exact enters_of Tryz.func120 (by kernel_rfl) rfl args W
        · exact enters_of Tryz.func122 (by kernel_rfl) rfl args W
      · intro j f hf W hJ
        match j, hf with
        | 0, hf =>
          cases hf
          simp only [if_true] at hJ
          refine (isWorker1_calls _ B w.heap.size (w.heap.size + 1) s i W (hxU.later hJ) hfit ((hA.below hU).below hJ)).mono ?_
          rintro e w' ⟨rfl, hbw⟩
          have hbUw : Below U.heap.size U w' := hJ.trans (hbw.mono hJ.size)
          by_cases hin : i < 0 ∨ s.workers ≤ i
          · have hws : workS s i = (s, 7) := by simp [workS, workerE, hstart, hin]
            obtain ⟨k1, k2, k3⟩ := keepU w' hbUw 7 hws
            exact ⟨7, by rw [if_pos hin], .inr ⟨by omega, k1.symm, k2, k3⟩⟩
          · exact ⟨0, by rw [if_neg hin], .inl ⟨rfl, by simp only [Nat.zero_add, Nat.one_ne_zero, if_false, if_true]; exact ⟨hbUw, by omega⟩⟩⟩
        | 1, hf =>
          cases hf
          simp only [Nat.one_ne_zero, if_false, if_true] at hJ
          obtain ⟨hJ, hin⟩ := hJ
          obtain ⟨k, rfl⟩ := Int.eq_ofNat_of_zero_le hin.1
          have hf5 := hfit.five
          obtain ⟨x, hxk⟩ : ∃ x, s.W[k]? = some x := ⟨_, List.getElem?_eq_getElem (by omega)⟩
          have htk : (tasksS s (k : Int)).1 = x.tasks := by
            unfold tasksS
            rw [if_neg (by omega)]
            simp [hxk]
          refine (hasTask1_calls _ B w1.heap.size (w1.heap.size + 1) k s x W (hxU.later hJ) hxk (by omega) ((hB.below hU).below hJ)).mono ?_
          rintro e w' ⟨rfl, hbw⟩
          have hbUw : Below U.heap.size U w' := hJ.trans (hbw.mono hJ.size)
          by_cases hz : x.tasks.length = 0
          · have hwe : workerE s (k : Int) = 0 := by simp [workerE, hstart]; omega
            have hz' : x.tasks = [] := List.length_eq_zero_iff.1 hz
            have hws : workS s (k : Int) = (s, 8) := by simp [workS, hwe, hxk, hz']
            obtain ⟨k1, k2, k3⟩ := keepU w' hbUw 8 hws
            exact ⟨8, by rw [if_pos hz], .inr ⟨by omega, k1.symm, k2, k3⟩⟩
          · refine ⟨0, by rw [if_neg hz], .inl ⟨rfl, ?_⟩⟩
            simp only [show ¬ (1 + 1 : Nat) = 0 by omega, show ¬ (1 + 1 : Nat) = 1 by omega, show (1 + 1 : Nat) = 2 from rfl, if_false, if_true]
            exact ⟨hbUw, hin, by rw [htk]; intro h; rw [h] at hz; simp at hz⟩
        | 2, hf =>
          cases hf
          simp only [show ¬ (2 : Nat) = 0 by omega, show ¬ (2 : Nat) = 1 by omega, if_false, if_true] at hJ
          obtain ⟨hJ, hin, hne⟩ := hJ
          have hi0 : i = 0 := by
            rcases hi with h | h
            · exact h
            · exact absurd h hne
          subst hi0
          obtain ⟨x, hxk⟩ : ∃ x, s.W[0]? = some x := ⟨_, List.getElem?_eq_getElem (by omega)⟩
          have htk : (tasksS s 0).1 = x.tasks := by
            unfold tasksS
            rw [if_neg (by omega)]
            simp [hxk]
          rw [htk] at hne
          rcases List.eq_nil_or_concat x.tasks with hxt | ⟨L, t, hxt⟩
          · exact absurd hxt hne
          rw [List.concat_eq_append] at hxt
          have hwe : workerE s 0 = 0 := by simp [workerE, hstart]; omega
          have hws := workS_zero hwe hxk hxt
          have zU := hwU.size
          have zW := hJ.size
          have zUU := hU.size
          refine (doYoungest1_calls _ B w2.heap.size (w2.heap.size + 1) s x L t W (hxU.later hJ) hfit hxk hxt hv ((hC.below hU).below hJ) ⟨fun h => by omega, fun h => by omega⟩).mono ?_
          rintro e w' ⟨rfl, k2, k3⟩
          have hxw : XOK (fun b => F b ∨ w.heap.size ≤ b) w' B (workS s 0).1 := by rw [hws]; exact k2.mono (fun b _ h => by rcases h with h | h; exact .inl h.1; exact .inr (by omega))
          have hkw : Kept F w w' := (Kept.of_below (hwU.trans (hJ.mono zU)) (X := F) (fun b h1 h2 => by omega)).andThen k3 (fun b _ h => h.1)
          refine ⟨(doneS s x L t).2, rfl, ?_⟩
          by_cases hr : (doneS s x L t).2 = 0
          · refine .inl ⟨hr, ?_⟩
            simp only [show ¬ (2 + 1 : Nat) = 0 by omega, show ¬ (2 + 1 : Nat) = 1 by omega, show ¬ (2 + 1 : Nat) = 2 by omega, if_false]
            exact ⟨by rw [hws, hr], hxw, hkw⟩
          · exact .inr ⟨hr, by rw [hws], hxw, hkw⟩
        | (m + 3), hf => simp at hf
      · exact Below.refl _ _
      · rintro e w' ⟨r, rfl, hr⟩
        refine ⟨r, rfl, ?_⟩
        rcases hr with ⟨rfl, h2⟩ | ⟨_, h2⟩
        · simp only [show ¬ (3 : Nat) = 0 by omega, show ¬ (3 : Nat) = 1 by omega, show ¬ (3 : Nat) = 2 by omega, if_false] at h2
          exact h2
        · exact h2
    · rintro e w' ⟨r, rfl, hr⟩
      refine ⟨r, rfl, ?_⟩
      rcases hr with ⟨ho, rfl, hb⟩ | ⟨_, h2⟩
      · have hws : workS s i = (s, 6) := by simp [workS, workerE, startE, hd, ho]
        rw [hws]
        exact ⟨rfl, (hx4.later hb).mono (fun b _ h => .inl h.1), Kept.of_below (hb4.trans (hb.mono hb4.size)) (fun b h1 h2 => by omega)⟩
      · exact h2
  have HKEY := hid_of key
  have HW1 := hid_of hw1
  have HW2 := hid_of hw2
  have HW3 := hid_of hw3
  have HW4 := hid_of hw4
  obtain ⟨res, hres⟩ : ∃ res, workS s i = res := ⟨_, rfl⟩
  rw [hres] at HKEY ⊢
  clear key hw1 hw2 hw3 hw4 hx hx0 hx4 hA hB hC bL hb4 g1 g2 g3 g4 z1 z2 z3 z4 hf hfit hlen hi hres
  go_enter Tryz.func32, Tryz.ntmps32
  go_wp2_with (first
    | (go_at_call 72; refine (isWorker_calls (some ⟨B, 0, none⟩) i w).mono ?_; rintro e a1 ⟨rfl, hq⟩; obtain rfl : w1 = a1 := HW1.out.symm.trans hq.symm; clear hq)
    | (go_at_call 76; refine (hasTask_calls (some ⟨B, 0, none⟩) i w1).mono ?_; rintro e a2 ⟨rfl, hq⟩; obtain rfl : w2 = a2 := HW2.out.symm.trans hq.symm; clear hq)
    | (go_at_call 77; refine (doYoungest_calls (some ⟨B, 0, none⟩) i w2).mono ?_; rintro e a3 ⟨rfl, hq⟩; obtain rfl : w3 = a3 := HW3.out.symm.trans hq.symm; clear hq)
    | (go_at_call 75; refine Calls.at_world HW4.out ?_; refine HKEY.out.mono ?_; rintro e a4 ⟨r, rfl, hr, k2, k3⟩; subst hr))
  go_ret
  exact ⟨rfl, k2, k3⟩
end Go.Proofs.YtdbbejedipfckaaGreatDoor
/-
  Tests one after another, and something done behind them: of several errors the first one is the answer.
-/
namespace Go.Proofs.YtdbbejedipfckaaGreatDoor
open Go Go.RowKit

/-- All tests up to the i-th were passed. -/
def Passed (es : List Int) (i : Nat) : Prop := ∀ j e, j < i → es[j]? = some e → e = 0
theorem Passed.next {es : List Int} {i : Nat} (h : Passed es i) (he : es[i]? = some 0) : Passed es (i + 1) := fun j e hj hje => by
  rcases Nat.lt_or_ge j i with h' | h'
  · exact h j e h' hje
  · obtain rfl : j = i := by omega
    rw [he] at hje
    exact (Option.some.inj hje).symm
theorem inTurn_tests (g : Nat) (fs : List StepV) (es : List Int) (fl : StepV) (U : World) (R : Int → World → Prop) (hn : fs.length ≤ 8) (hes : es.length = fs.length) (t : TypeId) (hbox : BoxAt U g t ((fs ++ [fl]).map stepVal).toArray)
    (he : ∀ f ∈ fs ++ [fl], ∀ args w, (callFunc f.1 args).run Tryz.prog w = .ok (.enter f.1 args) w)
    (test : ∀ i f e, fs[i]? = some f → es[i]? = some e → Passed es i → ∀ W, Below U.heap.size U W → Calls Tryz.prog f.1 (f.2.1 ++ f.2.2) W fun en w' => en = .returned (.int .i64 e) ∧ Below W.heap.size W w')
    (bad : ∀ i e, es[i]? = some e → e ≠ 0 → Passed es i → ∀ W, Below U.heap.size U W → R e W)
    (last : Passed es es.length → ∀ W, Below U.heap.size U W → Calls Tryz.prog fl.1 (fl.2.1 ++ fl.2.2) W fun en w' => ∃ r, en = .returned (.int .i64 r) ∧ R r w') :
    Calls Tryz.prog 114 #[.slice (some ⟨g, 0, none⟩) (fs.length + 1) (fs.length + 1)] U fun e w' => ∃ r, e = .returned (.int .i64 r) ∧ R r w' := by
  refine (inTurn_calls g (fs.length + 1) (fs.length + 1) (fs ++ [fl]) U (by simp) (by omega) (fun i W => if i ≤ fs.length then Below U.heap.size U W ∧ Passed es i else R 0 W) (fun r W => R r W) ?_ he ?_ ?_).mono ?_
  · intro i W hJ f hf
    have hi := (List.getElem?_eq_some_iff.1 hf).1
    simp at hi
    rw [if_pos (by omega)] at hJ
    refine (hbox.below hJ.1 hbox.lt).cell (o := i) ?_
    rw [List.getElem?_toArray, List.getElem?_map, hf]
    rfl
  · intro i f hf W hJ
    have hi := (List.getElem?_eq_some_iff.1 hf).1
    simp at hi
    rw [if_pos (by omega)] at hJ
    rcases Nat.lt_or_ge i fs.length with hl | hl
    · rw [List.getElem?_append_left hl] at hf
      obtain ⟨e, hee⟩ : ∃ e, es[i]? = some e := ⟨_, List.getElem?_eq_getElem (by omega)⟩
      refine (test i f e hf hee hJ.2 W hJ.1).mono ?_
      rintro en w' ⟨rfl, hb⟩
      have hb' : Below U.heap.size U w' := hJ.1.trans (hb.mono hJ.1.size)
      refine ⟨e, rfl, ?_⟩
      by_cases h0 : e = 0
      · subst h0
        refine .inl ⟨rfl, ?_⟩
        rw [if_pos (by omega)]
        exact ⟨hb', hJ.2.next hee⟩
      · exact .inr ⟨h0, bad i e hee h0 hJ.2 w' hb'⟩
    · obtain rfl : i = fs.length := by omega
      have hfe : f = fl := by simpa using hf.symm
      subst hfe
      refine (last (by rw [hes]; exact hJ.2) W hJ.1).mono ?_
      rintro en w' ⟨r, rfl, hr⟩
      refine ⟨r, rfl, ?_⟩
      by_cases h0 : r = 0
      · subst h0
        refine .inl ⟨rfl, ?_⟩
        rw [if_neg (by omega)]
        exact hr
      · exact .inr ⟨h0, hr⟩
  · rw [if_pos (Nat.zero_le _)]
    exact ⟨Below.refl _ _, fun j e hj => absurd hj (Nat.not_lt_zero _)⟩
  · rintro e w' ⟨r, rfl, hr⟩
    refine ⟨r, rfl, ?_⟩
    rcases hr with ⟨rfl, h⟩ | ⟨-, h⟩
    · rwa [if_neg (by omega)] at h
    · exact h
/-- A call that changes something: its tests one after another, and what it does. -/
theorem change_tests (F : Nat → Prop) (B g : Nat) (s : RunS) (w : World) (hx : XOK F w B s) (fs : List StepV) (es : List Int) (fl : StepV) (res : RunS × Int) (w0 : World) (hw0 : Below w0.heap.size w0 w) (hx0 : XOK F w0 B s) (hn : fs.length ≤ 8) (hes : es.length = fs.length) (t : TypeId) (hbox : BoxAt w g t ((fs ++ [fl]).map stepVal).toArray)
    (hover : s.over = true → res = (s, 6))
    (he : ∀ f ∈ fs ++ [fl], ∀ args w, (callFunc f.1 args).run Tryz.prog w = .ok (.enter f.1 args) w)
    (test : s.over = false → ∀ i f e, fs[i]? = some f → es[i]? = some e → Passed es i → ∀ W, Below w.heap.size w W → Calls Tryz.prog f.1 (f.2.1 ++ f.2.2) W fun en w' => en = .returned (.int .i64 e) ∧ Below W.heap.size W w')
    (bad : s.over = false → ∀ i e, es[i]? = some e → e ≠ 0 → Passed es i → res = (s, e))
    (last : s.over = false → Passed es es.length → ∀ W, Below w.heap.size w W → Calls Tryz.prog fl.1 (fl.2.1 ++ fl.2.2) W (XGives (fun b => F b ∧ b < w0.heap.size) W B res)) :
    Calls Tryz.prog 75 #[.pointer (some ⟨B, 0, none⟩), .slice (some ⟨g, 0, none⟩) (fs.length + 1) (fs.length + 1)] w (XGives F w0 B res) := by
  have same : ∀ W r, Below w.heap.size w W → res = (s, r) → XGives F w0 B res (.returned (.int .i64 r)) W := fun W r hb hr => by
    rw [hr]
    have hb0 : Below w0.heap.size w0 W := hw0.trans (hb.mono hw0.size)
    exact ⟨rfl, (hx0.later hb0).mono (fun b _ h => .inl h), Kept.of_below hb0 (fun b h1 h2 => by omega)⟩
  refine (change_calls F B g (fs.length + 1) s w hx (fun r w' => XGives F w0 B res (.returned (.int .i64 r)) w') (fun hov U hU => ?_)).mono ?_
  · refine (inTurn_tests g fs es fl U (fun r w' => XGives F w0 B res (.returned (.int .i64 r)) w') hn hes t (hbox.below hU hbox.lt) he (fun i f e h1 h2 h3 W hW => test hov i f e h1 h2 h3 W (hU.trans (hW.mono hU.size))) (fun i e h1 h2 h3 W hW => same W e (hU.trans (hW.mono hU.size)) (bad hov i e h1 h2 h3)) (fun hp W hW => ?_)).mono (fun e w' h => h)
    have hb : Below w.heap.size w W := hU.trans (hW.mono hU.size)
    have hb0 : Below w0.heap.size w0 W := hw0.trans (hb.mono hw0.size)
    have z0 := hb0.size
    refine (last hov hp W hb).mono ?_
    rintro en w' ⟨rfl, h2, h3⟩
    refine ⟨_, rfl, rfl, h2.mono (fun b _ h => ?_), ?_⟩
    · rcases h with h | h
      · exact .inl h.1
      · exact .inr (by omega)
    · exact (Kept.of_below hb0 (X := F) (fun b h1 h2 => by omega)).andThen h3 (fun b _ h => h.1)
  · rintro e w' ⟨r, rfl, h⟩
    rcases h with ⟨h1, rfl, h2⟩ | ⟨-, h⟩
    · exact same w' 6 h2 (hover h1)
    · exact h
end Go.Proofs.YtdbbejedipfckaaGreatDoor
/-
  The tests and the deed of Run.Steal: another one, idle, no answer awaited; a Request is sent.
-/
namespace Go.Proofs.YtdbbejedipfckaaGreatDoor
open Go Go.RowKit

theorem flat_set {α : Type} {sz : Nat} {enc : α → List Value} (he : ∀ x, (enc x).length = sz) : ∀ (xs : List α) (k : Nat) (x x' : α) (i : Nat) (u : Value), xs[k]? = some x → i < sz → enc x' = (enc x).set i u → (xs.flatMap enc).set (k * sz + i) u = (xs.set k x').flatMap enc
  | [], _, _, _, _, _, h, _, _ => by simp at h
  | y :: r, 0, x, x', i, u, h, hi, hx => by
    simp at h
    subst h
    rw [Nat.zero_mul, Nat.zero_add, List.flatMap_cons, List.set_append_left _ _ (by rw [he]; exact hi), ← hx]
    rfl
  | y :: r, k + 1, x, x', i, u, h, hi, hx => by
    have h1 := flat_set he r k x x' i u (by simpa using h) hi hx
    rw [List.flatMap_cons, List.set_append_right _ _ (by rw [he, Nat.succ_mul]; omega), he, show (k + 1) * sz + i - sz = k * sz + i by rw [Nat.succ_mul]; omega, h1]
    rfl
/-- The variables that a step holds: two numbers. -/
def TwoAt (W : World) (Bw Bv : Nat) (i v : Int) : Prop := BoxAt W Bw 3 #[.int .i64 i] ∧ BoxAt W Bv 3 #[.int .i64 v]
theorem TwoAt.below {W W' : World} {Bw Bv : Nat} {i v : Int} (h : TwoAt W Bw Bv i v) (hb : Below W.heap.size W W') : TwoAt W' Bw Bv i v := ⟨h.1.below hb h.1.lt, h.2.below hb h.2.lt⟩
theorem areTwo1_calls (Bw Bv : Nat) (i v : Int) (w : World) (h : TwoAt w Bw Bv i v) : Calls Tryz.prog 129 #[.pointer (some ⟨Bw, 0, none⟩), .pointer (some ⟨Bv, 0, none⟩)] w fun e w' => e = .returned (.int .i64 (if i = v then 7 else 0)) ∧ Below w.heap.size w w' := by
  have a0 := h.1.cell (o := 0) rfl
  have a1 := h.2.cell (o := 0) rfl
  clear h
  obtain ⟨res, hres⟩ : ∃ res : Int, (if i = v then (7 : Int) else 0) = res := ⟨_, rfl⟩
  rw [hres]
  by_cases hiv : i = v
  · obtain rfl : (7 : Int) = res := by rw [← hres, if_pos hiv]
    have he : (i == v) = true := by simp [hiv]
    clear hiv hres
    go_enter Tryz.func129, Tryz.ntmps129
    go_wp2_with fail
    go_ret
    exact ⟨rfl, Below.refl _ _⟩
  · obtain rfl : (0 : Int) = res := by rw [← hres, if_neg hiv]
    have he : (i == v) = false := by rw [beq_eq_false_iff_ne]; exact hiv
    clear hiv hres
    go_enter Tryz.func129, Tryz.ntmps129
    go_wp2_with fail
    go_ret
    exact ⟨rfl, Below.refl _ _⟩
set_option maxHeartbeats 1000000 in
set_option maxRecDepth 100000 in
theorem isIdle1_calls (F : Nat → Prop) (B Br Bw k : Nat) (s : RunS) (x : WorkerS) (w : World) (hx : XOK F w B s) (hk : s.W[k]? = some x) (hh : HeldAt w Br Bw B k) :
    Calls Tryz.prog 130 #[.pointer (some ⟨Br, 0, none⟩), .pointer (some ⟨Bw, 0, none⟩)] w fun e w' => e = .returned (.int .i64 (if x.tasks.length = 0 then 0 else 9)) ∧ Below w.heap.size w w' := by
  obtain ⟨part, kv, yv, g, c, M, T, xs, y, -, h, -, -, ht, hc, hkl⟩ := x_worker hx hk
  have hb := h.box
  have hgl0 : g < w.heap.size := (h.wrow.1.lt g rfl).2
  clear h
  have HI : Hid (∀ U, Below w.heap.size w U → Calls Tryz.prog 121 #[.pointer (some ⟨T, 0, none⟩)] U fun e w' => e = .returned (.bool (decide (x.tasks.length = 0))) ∧ Below w.heap.size w w') := fun U hU => by
    refine (idle_calls (fun b => part b = 10 + k) T s.room x.tasks U (ht.kept (Kept.of_below hU (X := fun b => w.heap.size ≤ b) (fun _ _ h => h)) (fun g hg h => ⟨by omega, h⟩))).mono ?_
    rintro e w' ⟨rfl, rfl⟩
    exact ⟨rfl, hU⟩
  have b3 : w.cell? ⟨B, 3, none⟩ = some (.slice (some ⟨g, 0, none⟩) xs.length c) := hb.cell (o := 3) rfl
  have r0 := hh.1.cell (o := 0) rfl
  have i0 := hh.2.cell (o := 0) rfl
  have j1 : (0 : Int) ≤ (k : Int) := by omega
  have j2 : (k : Int) < (xs.length : Int) := by omega
  obtain ⟨eb, heb⟩ : ∃ eb, decide (x.tasks.length = 0) = eb := ⟨_, rfl⟩
  rw [heb] at HI
  have hif : (if x.tasks.length = 0 then (0 : Int) else 9) = if eb then 0 else 9 := by rw [← heb]; simp
  rw [hif]
  clear hif heb hb hh ht
  go_enter Tryz.func130, Tryz.ntmps130
  cases eb
  all_goals
    go_upto_region 1 with fail
    go_still_tail 8, (by kernel_rfl)
    go_wp2_with (go_at_call 121; refine (HI.out _ ((Below.refl _ _).drew)).mono ?_; rintro e w1 ⟨rfl, hb1⟩)
    go_ret
    exact ⟨rfl, hb1⟩
set_option maxHeartbeats 1000000 in
set_option maxRecDepth 100000 in
theorem hasAnswer1_calls (F : Nat → Prop) (B Br Bw k : Nat) (s : RunS) (x : WorkerS) (w : World) (hx : XOK F w B s) (hk : s.W[k]? = some x) (hh : HeldAt w Br Bw B k) :
    Calls Tryz.prog 131 #[.pointer (some ⟨Br, 0, none⟩), .pointer (some ⟨Bw, 0, none⟩)] w fun e w' => e = .returned (.int .i64 (if x.asked = true then 9 else 0)) ∧ Below w.heap.size w w' := by
  obtain ⟨part, kv, yv, g, c, M, T, xs, y, -, h, hy, -, ht, hc, hkl⟩ := x_worker hx hk
  have b3 : w.cell? ⟨B, 3, none⟩ = some (.slice (some ⟨g, 0, none⟩) xs.length c) := h.box.cell (o := 3) rfl
  have a3 : w.cell? ⟨g, k * 4 + 3, none⟩ = some (.bool x.asked) := by
    have h1 := h.wrow.1.cells (g := g) rfl (k * 4 + 3) _ (flat_get (sz := 4) (enc := xwEnc) (fun _ => rfl) xs k y 3 _ hy rfl)
    rw [addr_add, (h.wat k y x hy hk).1] at h1
    exact h1
  have r0 := hh.1.cell (o := 0) rfl
  have i0 := hh.2.cell (o := 0) rfl
  have j1 : (0 : Int) ≤ (k : Int) := by omega
  have j2 : (k : Int) < (xs.length : Int) := by omega
  obtain ⟨eb, heb⟩ : ∃ eb, x.asked = eb := ⟨_, rfl⟩
  rw [heb] at a3 ⊢
  clear heb hh ht h hc
  go_enter Tryz.func131, Tryz.ntmps131
  cases eb
  all_goals
    go_upto_region 1 with fail
    go_quiet (fail)
    go_wp2_with fail
    go_ret
    exact ⟨rfl, below_drewN (Below.refl _ _) _⟩
theorem sendS_post (s : RunS) (i j : Nat) (m : MsgS) (hk : m.kind ≠ 2 ∧ m.kind ≠ 4) (h0 : m.src = i) (h1 : m.dst = j) : sendS s m = postS s i j m := by
  have h2 : ¬ (m.kind = 2 ∨ m.kind = 4) := by omega
  simp only [sendS, postS, LinkS.sent, h2, if_false, h0, h1, Int.toNat_natCast]
set_option maxHeartbeats 4000000 in
set_option maxRecDepth 100000 in
theorem sendRequest1_calls (F : Nat → Prop) (B Br Bw Bv k j : Nat) (s : RunS) (x : WorkerS) (ls : List LinkS) (l : LinkS) (w : World) (hx : XOK F w B s) (hk : s.W[k]? = some x) (hls : s.links[k]? = some ls) (hl : ls[j]? = some l) (hij : j ≠ k) (hkn : l.known.toNat ≤ l.all.length) (hn : l.all.length ≤ 100000000) (hy : s.way.length ≤ 1000)
    (hh : HeldAt w Br Bw B k) (hv : BoxAt w Bv 3 #[.int .i64 (j : Int)]) (hF : ¬ F Br ∧ ¬ F Bw ∧ ¬ F Bv) :
    Calls Tryz.prog 132 #[.pointer (some ⟨Br, 0, none⟩), .pointer (some ⟨Bw, 0, none⟩), .pointer (some ⟨Bv, 0, none⟩)] w (XGives F w B (sendS { s with W := s.W.set k { x with asked := true } } { msg0 with src := (k : Int), dst := (j : Int), kind := 1 }, 0)) := by
  obtain ⟨part, kv, yv, g, c, M, T, xs, y, hpF, h, hy', -, -, hc, hkl⟩ := x_worker hx hk
  have b3 : w.cell? ⟨B, 3, none⟩ = some (.slice (some ⟨g, 0, none⟩) xs.length c) := h.box.cell (o := 3) rfl
  have hrow := h.wrow
  have hxw := h.wat k y x hy' hk
  have a3 : w.cell? ⟨g, k * 4 + 3, none⟩ = some (.bool x.asked) := by
    have h1 := h.wrow.1.cells (g := g) rfl (k * 4 + 3) _ (flat_get (sz := 4) (enc := xwEnc) (fun _ => rfl) xs k y 3 _ hy' rfl)
    rw [addr_add, hxw.1] at h1
    exact h1
  obtain ⟨cur, hcur⟩ : ∃ cur, BoxAt w g 135 cur := by
    obtain ⟨cs, hcs⟩ := row_obj h.wrow.1 (g := g) rfl
    exact ⟨cs, hcs⟩
  have f3 := hcur.frozen (k * 4 + 3)
  obtain ⟨Y, hY⟩ : ∃ Y, (w.drew).setCell ⟨g, k * 4 + 3, none⟩ (.bool true) = Y := ⟨_, rfl⟩
  have kY : Kept (· = g) w Y := by rw [← hY]; exact (Kept.refl (· = g) w).drew.setCell (.inl (by rfl)) _
  have rY : Y.ownsRow 0 135 4 (.slice (some ⟨g, 0, none⟩) xs.length c) (xs.set k (y.1, y.2.1, x.sent, true)).length ((xs.set k (y.1, y.2.1, x.sent, true)).flatMap xwEnc) := by
    have h1 := row_putAll [.bool true] (xs.flatMap xwEnc) (k * 4 + 3) w.drew h.wrow.1 (by simp; omega)
    have h2 : setAll (xs.flatMap xwEnc) (k * 4 + 3) [.bool true] = (xs.set k (y.1, y.2.1, x.sent, true)).flatMap xwEnc := by
      simp only [setAll]
      refine flat_set (sz := 4) (enc := xwEnc) (fun _ => rfl) xs k y _ 3 _ hy' (by omega) ?_
      have h3 : y.2.2 = (x.sent, x.asked) := hxw.1
      simp [xwEnc, h3]
    rw [h2] at h1
    rw [List.length_set, ← hY]
    exact h1
  obtain ⟨h2, hm2⟩ := h.renote (y' := { x with asked := true }) hy' hk rfl (kY.mono (fun b _ e => by subst e; exact h.wrow.2 b rfl)) rY
  have hpg : part g = 7 := h.wrow.2 g rfl
  have nF : ∀ b, ¬ F b → b ≠ g := fun b hb e => hb (hpF b (by rw [e]; omega))
  have r0 := hh.1.cell (o := 0) rfl
  have i0 := hh.2.cell (o := 0) rfl
  have r1 := (hh.1.kept kY (nF _ hF.1)).cell (o := 0) rfl
  have i1 := (hh.2.kept kY (nF _ hF.2.1)).cell (o := 0) rfl
  have v1 := (hv.kept kY (nF _ hF.2.2)).cell (o := 0) rfl
  have j1 : (0 : Int) ≤ (k : Int) := by omega
  have j2 : (k : Int) < (xs.length : Int) := by omega
  have HSD : Hid (Calls Tryz.prog 133 #[.pointer (some ⟨B, 0, none⟩), .int .i64 (k : Int), .int .i64 (j : Int), .slice (some ⟨Y.heap.size, 0, none⟩) 1 1] (Y.alloc (Obj.cells (msgCells { msg0 with kind := 1 }) 139)) fun e w' => ∃ v, e = .returned v ∧ (v = .tuple #[] ∧ XGives F w B (sendS { s with W := s.W.set k { x with asked := true } } { msg0 with src := (k : Int), dst := (j : Int), kind := 1 }, 0) (.returned (.int .i64 0)) w')) := by
    obtain ⟨h3, hm3⟩ := h2.later ((Below.refl _ _).alloc (Nat.le_refl _) (Obj.cells (msgCells { msg0 with kind := 1 }) 139))
    refine (send_x k j { msg0 with kind := 1 } Y.heap.size h3 hls hl hij hkn hn hy (BoxAt.new Y _ _)).mono ?_
    rintro e w' ⟨v, rfl, rfl, part', yv', h4, hm4⟩
    obtain ⟨h5, h6⟩ := ((hm2.trans hm3).trans hm4).okX h4 hpF
    refine ⟨_, rfl, rfl, rfl, ?_, h6⟩
    show XOK _ w' B (sendS _ _)
    rw [sendS_post _ k j _ (by simp) rfl rfl]
    exact h5
  clear h h2 hm2 hrow hxw hcur rY kY hh hv hc
  simp only [msg0] at HSD
  go_enter Tryz.func132, Tryz.ntmps132
  go_upto_region 1 with fail
  go_still_tail 7, (by kernel_rfl)
  go_wp2_with (go_at_call 133; refine HSD.out.mono ?_; rintro e w3 ⟨v3, rfl, rfl, hres⟩; have HRES := hid_of hres; clear hres)
  go_ret
  exact HRES.out
end Go.Proofs.YtdbbejedipfckaaGreatDoor
