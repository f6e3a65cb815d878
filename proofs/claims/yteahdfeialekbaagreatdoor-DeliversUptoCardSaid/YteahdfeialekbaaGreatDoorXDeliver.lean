/-
  Run.Drop, Run.Twice and Run.Tick of the project open by one test and one deed.
-/
import Derived.Test.YteahdfeialekbaaGreatDoorXMsgs
import Derived.Test.YteahdfeialekbaaGreatDoorXTwice
import Derived.Test.YteahdfeialekbaaGreatDoorXOut
import Derived.BigQuiet
import Derived.Test.YteahdfeialekbaaGreatDoorTwins
import Derived.Test.YteahdfeialekbaaGreatDoorXCome
import Derived.Test.YteahdfeialekbaaGreatDoorXArrIn
namespace Go.Proofs.YteahdfeialekbaaGreatDoor
open Go Go.RowKit
theorem isMessage_calls (rp : Option Addr) (i : Int) (w : World) : Calls Tryz.prog 93 #[.pointer rp, .int .i64 i] w fun e w' => e = .returned (.func (.func 139) #[] #[.pointer (some ⟨w.heap.size, 0, none⟩), .pointer (some ⟨w.heap.size + 1, 0, none⟩)]) /\ w' = held2 w rp i := by
 go_enter Tryz.func93, Tryz.ntmps93
 go_wp2_with fail
 go_ret
 exact ⟨rfl, rfl⟩
theorem dropMk_calls (rp : Option Addr) (i : Int) (w : World) : Calls Tryz.prog 94 #[.pointer rp, .int .i64 i] w fun e w' => e = .returned (.func (.func 141) #[] #[.pointer (some ⟨w.heap.size, 0, none⟩), .pointer (some ⟨w.heap.size + 1, 0, none⟩)]) /\ w' = held2 w rp i := by
 go_enter Tryz.func94, Tryz.ntmps94
 go_wp2_with fail
 go_ret
 exact ⟨rfl, rfl⟩
theorem double_calls (rp : Option Addr) (i : Int) (w : World) : Calls Tryz.prog 97 #[.pointer rp, .int .i64 i] w fun e w' => e = .returned (.func (.func 143) #[] #[.pointer (some ⟨w.heap.size, 0, none⟩), .pointer (some ⟨w.heap.size + 1, 0, none⟩)]) /\ w' = held2 w rp i := by
 go_enter Tryz.func97, Tryz.ntmps97
 go_wp2_with fail
 go_ret
 exact ⟨rfl, rfl⟩
theorem sendAgain_calls (rp : Option Addr) (i : Int) (w : World) : Calls Tryz.prog 99 #[.pointer rp, .int .i64 i] w fun e w' => e = .returned (.func (.func 145) #[] #[.pointer (some ⟨w.heap.size, 0, none⟩), .pointer (some ⟨w.heap.size + 1, 0, none⟩)]) /\ w' = held2 w rp i := by
 go_enter Tryz.func99, Tryz.ntmps99
 go_wp2_with fail
 go_ret
 exact ⟨rfl, rfl⟩
abbrev stepH (f : Nat) (W : World) : StepV := (f, #[], #[.pointer (some ⟨W.heap.size, 0, none⟩), .pointer (some ⟨W.heap.size + 1, 0, none⟩)])
abbrev stepW (f : Nat) (W : World) : StepV := (f, #[], #[.pointer (some ⟨W.heap.size + 1, 0, none⟩), .pointer (some ⟨W.heap.size, 0, none⟩)])
set_option maxHeartbeats 2000000 in
set_option maxRecDepth 100000 in
theorem drop_opens (rp : Option Addr) (i : Int) (w : World) (R : Ending -> World -> Prop)
  (h : ∀ W1 W2 W3, held2 w rp i = W1 -> held2 W1 rp i = W2 -> W2.alloc (Obj.cells (([stepH 139 w] ++ [stepH 141 W1]).map stepVal).toArray 129) = W3 -> Calls Tryz.prog 76 #[.pointer rp, .slice (some ⟨W2.heap.size, 0, none⟩) 2 2] W3 fun e w' => (∃ r, e = .returned (.int .i64 r)) /\ R e w') :
  Calls Tryz.prog 51 #[.pointer rp, .int .i64 i] w R := by
 obtain ⟨W1, h1⟩ : ∃ W1, held2 w rp i = W1 := ⟨_, rfl⟩
 obtain ⟨W2, h2⟩ : ∃ W2, held2 W1 rp i = W2 := ⟨_, rfl⟩
 obtain ⟨W3, h3⟩ : ∃ W3, W2.alloc (Obj.cells (([stepH 139 w] ++ [stepH 141 W1]).map stepVal).toArray 129) = W3 := ⟨_, rfl⟩
 have HC := hid_of (h W1 W2 W3 h1 h2 h3)
 have H1 := hid_of h1
 have H2 := hid_of h2
 have H3 := hid_of h3
 clear h h1 h2 h3
 go_enter Tryz.func51, Tryz.ntmps51
 go_wp2_with (first
  | (go_at_call 93; refine (isMessage_calls rp i w).mono ?_; rintro e a1 ⟨rfl, hq⟩; obtain rfl : W1 = a1 := H1.out.symm.trans hq.symm; clear hq)
  | (go_at_call 94; refine (dropMk_calls rp i W1).mono ?_; rintro e a1 ⟨rfl, hq⟩; obtain rfl : W2 = a1 := H2.out.symm.trans hq.symm; clear hq)
  | (go_at_call 76; refine Calls.at_world H3.out ?_; refine HC.out.mono ?_; rintro e a7 ⟨⟨r, rfl⟩, hr⟩))
 exact hr
theorem x_drop_nil (i : Int) (w : World) : Calls Tryz.prog 51 #[.pointer none, .int .i64 i] w fun e w' => e = .returned (.int .i64 1) /\ Below w.heap.size w w' := by
 refine drop_opens none i w _ (fun W1 W2 W3 h1 h2 h3 => ?_)
 refine (change_nil W2.heap.size 2 W3).mono ?_
 rintro e w' ⟨rfl, hb⟩
 have g1 := held2_below w none i
 have g2 := held2_below W1 none i
 rw [h1] at g1
 rw [h2] at g2
 have g3 : Below W2.heap.size W2 W3 := by rw [<- h3]; exact (Below.refl _ _).alloc (Nat.le_refl _) _
 have z1 := g1.size
 have z2 := g2.size
 have z3 := g3.size
 exact ⟨⟨1, rfl⟩, rfl, ((g1.trans (g2.mono (by omega))).trans (g3.mono (by omega))).trans (hb.mono (by omega))⟩
set_option maxHeartbeats 2000000 in
set_option maxRecDepth 100000 in
theorem twice_opens (rp : Option Addr) (i : Int) (w : World) (R : Ending -> World -> Prop)
  (h : ∀ W1 W2 W3, held2 w rp i = W1 -> held2 W1 rp i = W2 -> W2.alloc (Obj.cells (([stepH 139 w] ++ [stepH 143 W1]).map stepVal).toArray 129) = W3 -> Calls Tryz.prog 76 #[.pointer rp, .slice (some ⟨W2.heap.size, 0, none⟩) 2 2] W3 fun e w' => (∃ r, e = .returned (.int .i64 r)) /\ R e w') :
  Calls Tryz.prog 53 #[.pointer rp, .int .i64 i] w R := by
 obtain ⟨W1, h1⟩ : ∃ W1, held2 w rp i = W1 := ⟨_, rfl⟩
 obtain ⟨W2, h2⟩ : ∃ W2, held2 W1 rp i = W2 := ⟨_, rfl⟩
 obtain ⟨W3, h3⟩ : ∃ W3, W2.alloc (Obj.cells (([stepH 139 w] ++ [stepH 143 W1]).map stepVal).toArray 129) = W3 := ⟨_, rfl⟩
 have HC := hid_of (h W1 W2 W3 h1 h2 h3)
 have H1 := hid_of h1
 have H2 := hid_of h2
 have H3 := hid_of h3
 clear h h1 h2 h3
 go_enter Tryz.func53, Tryz.ntmps53
 go_wp2_with (first
  | (go_at_call 93; refine (isMessage_calls rp i w).mono ?_; rintro e a1 ⟨rfl, hq⟩; obtain rfl : W1 = a1 := H1.out.symm.trans hq.symm; clear hq)
  | (go_at_call 97; refine (double_calls rp i W1).mono ?_; rintro e a1 ⟨rfl, hq⟩; obtain rfl : W2 = a1 := H2.out.symm.trans hq.symm; clear hq)
  | (go_at_call 76; refine Calls.at_world H3.out ?_; refine HC.out.mono ?_; rintro e a7 ⟨⟨r, rfl⟩, hr⟩))
 exact hr
theorem x_twice_nil (i : Int) (w : World) : Calls Tryz.prog 53 #[.pointer none, .int .i64 i] w fun e w' => e = .returned (.int .i64 1) /\ Below w.heap.size w w' := by
 refine twice_opens none i w _ (fun W1 W2 W3 h1 h2 h3 => ?_)
 refine (change_nil W2.heap.size 2 W3).mono ?_
 rintro e w' ⟨rfl, hb⟩
 have g1 := held2_below w none i
 have g2 := held2_below W1 none i
 rw [h1] at g1
 rw [h2] at g2
 have g3 : Below W2.heap.size W2 W3 := by rw [<- h3]; exact (Below.refl _ _).alloc (Nat.le_refl _) _
 have z1 := g1.size
 have z2 := g2.size
 have z3 := g3.size
 exact ⟨⟨1, rfl⟩, rfl, ((g1.trans (g2.mono (by omega))).trans (g3.mono (by omega))).trans (hb.mono (by omega))⟩
set_option maxHeartbeats 2000000 in
set_option maxRecDepth 100000 in
theorem tick_opens (rp : Option Addr) (i : Int) (w : World) (R : Ending -> World -> Prop)
  (h : ∀ W1 W2 W3, held2 w rp i = W1 -> held2 W1 rp i = W2 -> W2.alloc (Obj.cells (([stepW 120 w] ++ [stepH 145 W1]).map stepVal).toArray 129) = W3 -> Calls Tryz.prog 76 #[.pointer rp, .slice (some ⟨W2.heap.size, 0, none⟩) 2 2] W3 fun e w' => (∃ r, e = .returned (.int .i64 r)) /\ R e w') :
  Calls Tryz.prog 55 #[.pointer rp, .int .i64 i] w R := by
 obtain ⟨W1, h1⟩ : ∃ W1, held2 w rp i = W1 := ⟨_, rfl⟩
 obtain ⟨W2, h2⟩ : ∃ W2, held2 W1 rp i = W2 := ⟨_, rfl⟩
 obtain ⟨W3, h3⟩ : ∃ W3, W2.alloc (Obj.cells (([stepW 120 w] ++ [stepH 145 W1]).map stepVal).toArray 129) = W3 := ⟨_, rfl⟩
 have HC := hid_of (h W1 W2 W3 h1 h2 h3)
 have H1 := hid_of h1
 have H2 := hid_of h2
 have H3 := hid_of h3
 clear h h1 h2 h3
 go_enter Tryz.func55, Tryz.ntmps55
 go_wp2_with (first
  | (go_at_call 73; refine (isWorker_calls rp i w).mono ?_; rintro e a1 ⟨rfl, hq⟩; obtain rfl : W1 = a1 := H1.out.symm.trans hq.symm; clear hq)
  | (go_at_call 99; refine (sendAgain_calls rp i W1).mono ?_; rintro e a1 ⟨rfl, hq⟩; obtain rfl : W2 = a1 := H2.out.symm.trans hq.symm; clear hq)
  | (go_at_call 76; refine Calls.at_world H3.out ?_; refine HC.out.mono ?_; rintro e a7 ⟨⟨r, rfl⟩, hr⟩))
 exact hr
theorem x_tick_nil (i : Int) (w : World) : Calls Tryz.prog 55 #[.pointer none, .int .i64 i] w fun e w' => e = .returned (.int .i64 1) /\ Below w.heap.size w w' := by
 refine tick_opens none i w _ (fun W1 W2 W3 h1 h2 h3 => ?_)
 refine (change_nil W2.heap.size 2 W3).mono ?_
 rintro e w' ⟨rfl, hb⟩
 have g1 := held2_below w none i
 have g2 := held2_below W1 none i
 rw [h1] at g1
 rw [h2] at g2
 have g3 : Below W2.heap.size W2 W3 := by rw [<- h3]; exact (Below.refl _ _).alloc (Nat.le_refl _) _
 have z1 := g1.size
 have z2 := g2.size
 have z3 := g3.size
 exact ⟨⟨1, rfl⟩, rfl, ((g1.trans (g2.mono (by omega))).trans (g3.mono (by omega))).trans (hb.mono (by omega))⟩
theorem messageE_run {s : RunS} (hd : s.done = false) (ho : s.over = false) (t : Int) : messageE s t = if t < 0 \/ (s.way.length : Int) <= t then 10 else 0 := by
 have : startE s = 0 := by simp [startE, hd, ho]
 unfold messageE
 rw [this]
 by_cases h : t < 0 \/ (s.way.length : Int) <= t
 ·rw [if_pos ⟨rfl, h⟩, if_pos h]
 ·rw [if_neg (fun h' => h h'.2), if_neg h]
theorem messageE_over {s : RunS} (hd : s.done = false) (ho : s.over = true) (t : Int) : messageE s t = 6 := by
 simp [messageE, startE, hd, ho]
theorem x_drop_calls (F : Nat -> Prop) (B : Nat) (s : RunS) (i : Int) (w : World) (hx : XOK F w B s) (hs : Shaped s) (hd : s.done = false) :
  Calls Tryz.prog 51 #[.pointer (some ⟨B, 0, none⟩), .int .i64 i] w (XGives F w B (dropS s i)) := by
 refine drop_opens (some ⟨B, 0, none⟩) i w _ (fun W1 W2 W3 h1 h2 h3 => ?_)
 have g1 := held2_below w (some ⟨B, 0, none⟩) i
 have g2 := held2_below W1 (some ⟨B, 0, none⟩) i
 have a1 := held2_at w B i
 have a2 := held2_at W1 B i
 rw [h1] at g1 a1
 rw [h2] at g2 a2
 have g3 : Below W2.heap.size W2 W3 := by rw [<- h3]; exact (Below.refl _ _).alloc (Nat.le_refl _) _
 have bL : BoxAt W3 W2.heap.size 129 (([stepH 139 w] ++ [stepH 141 W1]).map stepVal).toArray := by rw [<- h3]; exact BoxAt.new W2 _ _
 have z1 := g1.size
 have z2 := g2.size
 have k2 : Below W1.heap.size W1 W3 := g2.trans (g3.mono z2)
 have hb : Below w.heap.size w W3 := g1.trans (k2.mono z1)
 have c1 := a1.below k2
 have c2 := a2.below g3
 clear a1 a2 h1 h2 h3 g1 g2 k2
 have hlow := hx.low
 refine (change_tests F B W2.heap.size s W3 (hx.later hb) [stepH 139 w] [if i < 0 \/ (s.way.length : Int) <= i then 10 else 0] (stepH 141 W1) (dropS s i) w hb hx (by simp) (by simp) 129 bL ?over ?enter ?test ?bad ?last).mono (fun e w' h => ⟨⟨_, h.1⟩, h⟩)
 case over =>
  intro ho
  simp [dropS, messageE_over hd ho]
 case enter =>
  intro f hf' args W
  simp at hf'
  rcases hf' with rfl | rfl
  ·exact enters_of Tryz.func139 (by kernel_rfl) rfl args W
  ·exact enters_of Tryz.func141 (by kernel_rfl) rfl args W
 case test =>
  intro ho j f e hj he hp W hW
  match j, hj, he with
  | 0, hj, he => cases hj; cases he; exact isMessage1_calls F B _ _ s i W ((hx.later hb).later hW) (c1.below hW)
  | (n + 1), hj, he => simp at hj
 case bad =>
  intro ho j e he hne hp
  have wi := messageE_run hd ho i
  match j, he with
  | 0, he => cases he; simp only [dropS, wi, if_pos hne]
  | (n + 1), he => simp at he
 case last =>
  intro ho hp W hW
  have p0 := hp 0 _ (by simp) rfl
  have wi := messageE_run hd ho i
  rw [p0] at wi
  obtain ⟨q0, q1⟩ := messageE_in wi
  obtain ⟨k, rfl⟩ := Int.eq_ofNat_of_zero_le q0
  obtain ⟨m, hm⟩ : ∃ m, s.way[k]? = some m := ⟨_, List.getElem?_eq_getElem (by omega)⟩
  have hres : dropS s (k : Int) = ({ s with way := s.way.take k ++ s.way.drop (k + 1) }, 0) := by simp [dropS, wi]
  rw [hres]
  have hbW : Below w.heap.size w W := hb.trans (hW.mono hb.size)
  exact drop1_calls _ B _ _ k m s W (hlow.later hbW) hm (by have := hs.way; omega) (c2.below hW)
theorem x_twice_calls (F : Nat -> Prop) (B : Nat) (s : RunS) (i : Int) (w : World) (hx : XOK F w B s) (hs : Shaped s) (hd : s.done = false) :
  Calls Tryz.prog 53 #[.pointer (some ⟨B, 0, none⟩), .int .i64 i] w (XGives F w B (twiceS s i)) := by
 refine twice_opens (some ⟨B, 0, none⟩) i w _ (fun W1 W2 W3 h1 h2 h3 => ?_)
 have g1 := held2_below w (some ⟨B, 0, none⟩) i
 have g2 := held2_below W1 (some ⟨B, 0, none⟩) i
 have a1 := held2_at w B i
 have a2 := held2_at W1 B i
 rw [h1] at g1 a1
 rw [h2] at g2 a2
 have g3 : Below W2.heap.size W2 W3 := by rw [<- h3]; exact (Below.refl _ _).alloc (Nat.le_refl _) _
 have bL : BoxAt W3 W2.heap.size 129 (([stepH 139 w] ++ [stepH 143 W1]).map stepVal).toArray := by rw [<- h3]; exact BoxAt.new W2 _ _
 have z1 := g1.size
 have z2 := g2.size
 have k2 : Below W1.heap.size W1 W3 := g2.trans (g3.mono z2)
 have hb : Below w.heap.size w W3 := g1.trans (k2.mono z1)
 have c1 := a1.below k2
 have c2 := a2.below g3
 clear a1 a2 h1 h2 h3 g1 g2 k2
 have hlow := hx.low
 refine (change_tests F B W2.heap.size s W3 (hx.later hb) [stepH 139 w] [if i < 0 \/ (s.way.length : Int) <= i then 10 else 0] (stepH 143 W1) (twiceS s i) w hb hx (by simp) (by simp) 129 bL ?over ?enter ?test ?bad ?last).mono (fun e w' h => ⟨⟨_, h.1⟩, h⟩)
 case over =>
  intro ho
  simp [twiceS, messageE_over hd ho]
 case enter =>
  intro f hf' args W
  simp at hf'
  rcases hf' with rfl | rfl
  ·exact enters_of Tryz.func139 (by kernel_rfl) rfl args W
  ·exact enters_of Tryz.func143 (by kernel_rfl) rfl args W
 case test =>
  intro ho j f e hj he hp W hW
  match j, hj, he with
  | 0, hj, he => cases hj; cases he; exact isMessage1_calls F B _ _ s i W ((hx.later hb).later hW) (c1.below hW)
  | (n + 1), hj, he => simp at hj
 case bad =>
  intro ho j e he hne hp
  have wi := messageE_run hd ho i
  match j, he with
  | 0, he => cases he; simp only [twiceS, wi, if_pos hne]
  | (n + 1), he => simp at he
 case last =>
  intro ho hp W hW
  have p0 := hp 0 _ (by simp) rfl
  have wi := messageE_run hd ho i
  rw [p0] at wi
  obtain ⟨q0, q1⟩ := messageE_in wi
  obtain ⟨k, rfl⟩ := Int.eq_ofNat_of_zero_le q0
  obtain ⟨m, hm⟩ : ∃ m, s.way[k]? = some m := ⟨_, List.getElem?_eq_getElem (by omega)⟩
  have hres : twiceS s (k : Int) = (wayS s m, 0) := by simp [twiceS, wi, hm]
  rw [hres]
  have hbW : Below w.heap.size w W := hb.trans (hW.mono hb.size)
  exact double1_calls _ B _ _ k m s W (hlow.later hbW) hm (by have := hs.way; omega) (c2.below hW)
abbrev frN (q : Nat) (no : Int) (x : Nat -> Value) : Act := ⟨#[.pointer (some ⟨q, 0, none⟩), .int .i64 no, x 2, x 3, x 4, x 5, x 6, x 7, x 8, x 9, x 10, x 11, x 12, x 13, x 14, x 15, x 16, x 17, x 18, x 19, x 20], []⟩
theorem frN_eq (q : Nat) (no : Int) (a2 a3 a4 a5 a6 a7 a8 a9 a10 a11 a12 a13 a14 a15 a16 a17 a18 a19 a20 : Value) : (⟨#[.pointer (some ⟨q, 0, none⟩), .int .i64 no, a2, a3, a4, a5, a6, a7, a8, a9, a10, a11, a12, a13, a14, a15, a16, a17, a18, a19, a20], []⟩ : Act) = frN q no (fun i => (#[undef, undef, a2, a3, a4, a5, a6, a7, a8, a9, a10, a11, a12, a13, a14, a15, a16, a17, a18, a19, a20]).getD i undef) := rfl
set_option maxHeartbeats 1000000 in
set_option maxRecDepth 100000 in
theorem first_calls1 (q c cap n : Nat) (L : List MsgS) (w : World) (hq : BoxAt w q 168 #[.int .i64 (n : Int), .chan (some c)]) (hc : ChanAt w c cap L) (hn : n <= 100000000) (hL : L.length <= n) :
  Calls Tryz.prog 173 #[.pointer (some ⟨q, 0, none⟩)] w fun e w' => e = .returned (.int .i64 ((n : Int) - (L.length : Int) + 1)) /\ ∃ d, w' = w.drewN d := by
 obtain ⟨s, r, hch⟩ := hc
 have hsz : ((L.map msgV).toArray).size = L.length := by simp
 have l0 : ∀ ty k, (Builtin.len_ #[166] ty #[.chan (some c)]).run Tryz.prog (w.drewN k) = .ok (.int .i64 (L.length : Int)) (w.drewN k) := fun ty k => by
  have := run_len_ch (P := Tryz.prog) (w := w.drewN k) 166 ty Tryz.underlying166 (show (w.drewN k).heap[c]? = _ from hch)
  rw [hsz] at this
  exact this
 have y0 := hq.cell (o := 0) rfl
 have y1 := hq.cell (o := 1) rfl
 have w1 : IntKind.i64.wrap ((n : Int) - (L.length : Int)) = (n : Int) - (L.length : Int) := IntWalk.i64_in _ (by omega)
 have w2 : IntKind.i64.wrap ((n : Int) - (L.length : Int) + 1) = (n : Int) - (L.length : Int) + 1 := IntWalk.i64_in _ (by omega)
 clear hq hch
 go_enter Tryz.func173, Tryz.ntmps173
 go_upto_region 1 with fail
 go_quiet (fail)
 go_wp2_with fail
 go_ret
 exact ⟨rfl, _, rfl⟩
set_option maxHeartbeats 4000000 in
set_option maxRecDepth 100000 in
theorem known_calls (q c cap n : Nat) (no : Int) (L : List MsgS) (w : World) (hq : BoxAt w q 168 #[.int .i64 (n : Int), .chan (some c)]) (hc : ChanAt w c cap L) (hn : n <= 100000000) (hL : L.length <= n) :
  Calls Tryz.prog 163 #[.pointer (some ⟨q, 0, none⟩), .int .i64 no] w fun e w' => ∃ v, e = .returned v /\ ChanAt w' c cap (L.drop (no - ((n : Int) - (L.length : Int))).toNat) /\ Kept (· = c) w w' := by
 refine calls_of_walkN Tryz.func163 rfl ?_ (by rintro w' ⟨v, h, -⟩; cases h)
 simp only [Tryz.ntmps163, List.size_toArray, List.length_cons, List.length_nil, Nat.reduceAdd, Nat.reduceSub, Array.replicate_succ, Array.replicate_zero, List.push_toArray, List.append_toArray, List.nil_append, List.cons_append]
 have hqc : q ≠ c := fun e => by
  obtain ⟨s, r, hch⟩ := hc
  subst e
  have h1 : w.heap[q]? = _ := hq
  rw [hch] at h1
  cases h1
 refine WalkN.block ?_
 refine WalkN.loop (fun m a W => ∃ (k : Nat) (x : Nat -> Value), L.length - k = m /\ k <= L.length /\ (k = 0 \/ (n : Int) - (L.length : Int) + k <= no) /\ a = frN q no x /\ ChanAt W c cap (L.drop k) /\ Kept (· = c) w W) (L.length - 0) ?start ?round
 case start => exact ⟨0, fun i => (#[.pointer (some ⟨q, 0, none⟩), .int .i64 no]).getD i undef, rfl, Nat.zero_le _, .inl rfl, rfl, by simpa using hc, Kept.refl _ _⟩
 case round =>
  rintro m a W ⟨k, x, hm, hk, hkn, rfl, hcW, hkW⟩
  have hqW := hq.kept hkW hqc
  have hch := hcW
  obtain ⟨s, r, hch⟩ := hch
  have hsz : (((L.drop k).map msgV).toArray).size = (L.drop k).length := by simp
  have hlen : ∀ ty, (Builtin.len_ #[166] ty #[.chan (some c)]).run Tryz.prog W = .ok (.int .i64 ((L.drop k).length : Int)) W := fun ty => by
   have := run_len_ch (P := Tryz.prog) (w := W) 166 ty Tryz.underlying166 hch
   rw [hsz] at this
   exact this
  have hll : (L.drop k).length = L.length - k := List.length_drop ..
  have HF := hid_of (first_calls1 q c cap n (L.drop k) W hqW hcW hn (by omega))
  have y1 := hqW.cell (o := 1) rfl
  refine WalkN.seq ?_
  by_cases h0 : (L.drop k).length = 0
  ·
   have g0 : decide (((L.drop k).length : Int) > 0) = false := by rw [h0]; rfl
   have HKW := hid_of hkW
   have HCW := hid_of hcW
   have HD : Hid (L.drop (no - ((n : Int) - (L.length : Int))).toNat = L.drop k \/ True) := .inr trivial
   rw [h0] at hlen
   clear hcW hkW hch
   refine WalkN.step (fun K hK => ?_)
   go_wp2_with fail
   refine WalkN.cond (t := false) rfl ?_
   refine WalkN.of_wp (wp_exit ?_)
   simp only [Exit.then, Exit.inBlock, if_true]
   go_end0
   refine ⟨_, rfl, ?_, HKW.out⟩
   have e : L.drop (no - ((n : Int) - (L.length : Int))).toNat = L.drop k := by
    rw [List.drop_eq_nil_of_le (by omega : L.length <= k)]
    rcases hkn with rfl | hkn
    ·rw [List.drop_eq_nil_of_le]; omega
    ·rw [List.drop_eq_nil_of_le]; omega
   rw [e]; exact HCW.out
  ·obtain ⟨d, hd⟩ : ∃ d, (L.drop k).length = d := ⟨_, rfl⟩
   rw [hd] at hlen HF h0 hll
   have HLL : Hid (d = L.length - k) := hll
   have HMM : Hid (L.length - k = m) := hm
   have HDD : Hid ((L.drop k).length = d) := hd
   clear hll hm hsz hd
   have g0 : decide ((d : Int) > 0) = true := by simp; omega
   have g1 : (0 : Int) < (d : Int) := by omega
   by_cases hle : (n : Int) - (d : Int) + 1 <= no
   ·have hdc : decide ((n : Int) - (d : Int) + 1 <= no) = true := decide_eq_true hle
    have HKW := hid_of hkW
    have HCW := hid_of hch
    have HQW := hid_of hqW
    clear hcW hkW hch hqW
    refine WalkN.step (fun K hK => ?_)
    go_wp2_with (go_at_call 173; refine HF.out.mono ?_; rintro e W1 ⟨rfl, dd, rfl⟩)
    refine WalkN.cond (t := true) (by first | rfl | (show Value.bool (decide _) = _; rw [hdc])) ?_
    refine WalkN.of_wp (wp_skip ?_)
    simp only [Exit.then]
    refine WalkN.block (WalkN.region ?_)
    change WalkO _ _ [0, 1, 2, 3, 4] _ _ _
    have y1' : (W.drewN dd).cell? ⟨q, 1, none⟩ = some (.chan (some c)) := y1
    refine WalkO.oper rfl rfl (fun K hK => ?_)
    go_simp
    rw [uponV_value]
    refine hK _ _ ?_
    clear hK K
    refine WalkO.oper rfl rfl (fun K hK => ?_)
    go_simp
    rw [uponV_value]
    refine hK _ _ ?_
    clear hK K
    refine WalkO.oper rfl rfl (fun K hK => ?_)
    go_simp
    rw [uponV_value]
    refine hK _ _ ?_
    clear hK K
    refine WalkO.oper rfl rfl (fun K hK => ?_)
    go_simp
    rw [uponV_value]
    refine hK _ _ ?_
    clear hK K
    obtain ⟨m', rest, hmr⟩ : ∃ m' rest, L.drop k = m' :: rest := by
     cases hx : L.drop k with
     | nil => have hd := HDD.out; rw [hx] at hd; simp at hd; omega
     | cons a b => exact ⟨a, b, rfl⟩
    have hrest : L.drop (k + 1) = rest := by
     rw [<- List.drop_drop, hmr]; rfl
    have hcW := HCW.out
    rw [hmr] at hcW
    refine WalkO.recv (ok := false) (c := c) (z := .agg (msgCells msg0)) rfl rfl (by simp [go_sem, Conc.rcase, msg0]) (show (W.drewN dd).heap[c]? = _ from hcW) (by simp) ?_
    have hg1 : (((m' :: rest).map msgV).toArray).extract 1 (((m' :: rest).map msgV).toArray).size = (rest.map msgV).toArray := by simp; exact List.take_of_length_le (by simp)
    rw [hg1]
    refine WalkO.nil ?_
    simp only [Exit.then, Exit.inBlock]
    obtain ⟨W3, hW3⟩ : ∃ W3, (W.drewN dd).setChan c cap (rest.map msgV).toArray false s (r + 1) false = W3 := ⟨_, rfl⟩
    have hcl : c < (W.drewN dd).heap.size := (Array.getElem?_eq_some_iff.1 (show (W.drewN dd).heap[c]? = _ from hcW)).1
    have c3 : W3.heap[c]? = some (.chan cap (rest.map msgV).toArray false s (r + 1) false) := by rw [<- hW3]; exact chan_set hcl _ _ _ _ _ _
    have k3 : Kept (· = c) (W.drewN dd) W3 := by rw [<- hW3]; exact (Kept.refl _ _).setChan (.inl (by rfl)) _ _ _ _ _ _
    rw [hW3]
    have hLL := HLL.out
    have hMM := HMM.out
    refine ⟨L.length - (k + 1), by omega, k + 1, _, rfl, by omega, .inr (by omega), frN_eq _ _ _ _ _ _ _ _ _ _ _ _ _ _ _ _ _ _ _ _ _, ?_, (HKW.out.drewN dd).trans k3⟩
    rw [hrest]
    exact ⟨s, r + 1, c3⟩
   ·have HKW := hid_of hkW
    have HCW := hid_of hcW
    have hdc : decide ((n : Int) - (d : Int) + 1 <= no) = false := decide_eq_false hle
    have HLE : Hid (¬ (n : Int) - (d : Int) + 1 <= no) := hle
    clear hcW hkW hch hqW
    refine WalkN.step (fun K hK => ?_)
    go_wp2_with (go_at_call 173; refine HF.out.mono ?_; rintro e W1 ⟨rfl, dd, rfl⟩)
    refine WalkN.cond (t := false) (by first | rfl | (show Value.bool (decide _) = _; rw [hdc])) ?_
    refine WalkN.of_wp (wp_exit ?_)
    simp only [Exit.then, Exit.inBlock, if_true]
    go_end0
    have hLL := HLL.out
    have hlee := HLE.out
    have e : (no - ((n : Int) - (L.length : Int))).toNat = k := by omega
    refine ⟨_, rfl, ?_, HKW.out.drewN _⟩
    rw [e]
    obtain ⟨s', r', h'⟩ := HCW.out
    exact ⟨s', r', h'⟩
theorem calm_msg {ks : List KindS} {ans ans' : Prop} {N N' i j n : Nat} {m : MsgS} (h : MsgOK ks ans N i j n m) (hk : m.kind <= 4) (hN : N <= N') : MsgOK ks ans' N' i j n m :=
 ⟨h.src, h.dst, h.ne, h.no, h.kind, h.task, fun e => by omega, fun e => by omega, fun e => by omega, (h.more (ans' := ans) hN id).nums⟩
theorem cameS_ks (s : RunS) (m : MsgS) : (cameS s m).ks = s.ks := by
 unfold cameS notedS
 dsimp only
 repeat' split
 all_goals first | rfl | exact (sendS_rest _ _).2.2
theorem fold_fine {i j : Nat} : ∀ (ms : List MsgS) (N : Nat) (s : RunS), Fine N s -> i < s.W.length -> j < s.W.length -> (∀ m ∈ ms, m.kind <= 4 /\ ∃ n, MsgOK s.ks (s.answers ≠ []) N i j n m) -> N + ms.length <= 900000 ->
  Fine (N + ms.length) (ms.foldl cameS s) /\ (ms.foldl cameS s).ks = s.ks /\ (ms.foldl cameS s).W.length = s.W.length := by
 intro ms
 induction ms with
 | nil => exact fun N s h _ _ _ _ => ⟨h, rfl, rfl⟩
 | cons m ms ih =>
  intro N s h hi hj hall hN
  obtain ⟨hk, n, hm⟩ := hall m (List.mem_cons_self ..)
  simp only [List.length_cons] at hN
  have hF := h.came (by omega) hi hj hm
  have hks := cameS_ks s m
  have hW := (cameS_link h hi hj hm).2
  obtain ⟨h1, h2, h3⟩ := ih (N + 1) (cameS s m) hF (by rw [hW]; exact hi) (by rw [hW]; exact hj) (fun m' hm' => by
   obtain ⟨hk', n', hm''⟩ := hall m' (List.mem_cons_of_mem _ hm')
   exact ⟨hk', n', by rw [hks]; exact calm_msg hm'' hk' (Nat.le_succ _)⟩) (by omega)
  rw [List.foldl_cons]
  refine ⟨?_, h2.trans hks, h3.trans hW⟩
  have e : N + (m :: ms).length = N + 1 + ms.length := by simp only [List.length_cons]; omega
  rw [e]
  exact h1
structure Arrives (N : Nat) (s : RunS) (i j : Nat) (m : MsgS) (l : LinkS) (n : Nat) : Prop where
 comes : Comes (keepS l m.no) n
 many : l.came.toNat + n <= l.all.length
 fine : Fine (N + 1) (setLink s i j (keepS l m.no))
 fold : comeS (l.all.length + 1) (setLink s i j (keepS l m.no)) i j = ((l.all.drop l.came.toNat).take n).foldl cameS (setLink s i j ((keepS l m.no).on n))
 each : ∀ k, k <= n -> Fine (N + 5) (((l.all.drop l.came.toNat).take k).foldl cameS (setLink s i j ((keepS l m.no).on n))) /\ (((l.all.drop l.came.toNat).take k).foldl cameS (setLink s i j ((keepS l m.no).on n))).W.length = s.W.length
theorem arrives {N : Nat} {s : RunS} (h : Fine N s) (hc : Calm s) (hN : N + 5 <= 900000) {i j n : Nat} {m : MsgS} (hi : i < s.W.length) (hj : j < s.W.length) (hij : i ≠ j) (hno : m.no <= (linkOf s i j).all.length) (hcm : Comes (keepS (linkOf s i j) m.no) n) : Arrives N s i j m (linkOf s i j) n := by
 have hlk := h.links i j hi hj
 obtain ⟨ka, kk, kc⟩ := keepS_all (linkOf s i j) m.no
 have hF1 := h.keep hi hj hno
 have hset := linkOf_set (keepS (linkOf s i j) m.no) h.llen h.lrow hi hj i j
 rw [if_pos ⟨rfl, rfl⟩] at hset
 have hlk1 := hF1.links i j hi hj
 rw [hset] at hlk1
 have h4 : n <= 4 /\ (linkOf s i j).came.toNat + n <= (linkOf s i j).all.length := by
  cases n with
  | zero => exact ⟨by omega, by have := hlk.came; omega⟩
  | succ n =>
   have h0 := hcm.each n (by omega)
   have hnx : (linkOf s i j).came + n + 1 ∈ (keepS (linkOf s i j) m.no).kept := by
    unfold nextB at h0
    obtain ⟨x, hx, e⟩ := List.any_eq_true.1 h0
    have e1 := beq_iff_eq.1 e
    have e2 : ((keepS (linkOf s i j) m.no).on n).came = (linkOf s i j).came + n := by show (keepS (linkOf s i j) m.no).came + n = _; rw [kc]
    rw [e2] at e1
    rw [<- e1]; exact hx
   have h5 := hlk1.kept _ hnx
   rw [ka, kc] at h5
   have := hlk.came
   omega
 have hmsgs : ∀ k m', (linkOf s i j).all[k]? = some m' -> m'.kind <= 4 /\ MsgOK s.ks (s.answers ≠ []) N i j k m' := fun k m' hm' => ⟨(CalmL.link hc.links i j m' (List.mem_of_getElem? hm')).kind, hlk.msgs k m' hm'⟩
 have hF2 : Fine (N + 1) (setLink s i j ((keepS (linkOf s i j) m.no).on n)) := by
  refine h.relink hi hj (L := []) (by show (keepS (linkOf s i j) m.no).all = _; rw [ka]; simp) ⟨hlk1.msgs, hlk1.all, hlk1.known, ?_, ?_, hlk1.klen⟩ (Nat.le_succ _)
  ·show 0 <= (keepS (linkOf s i j) m.no).came + n /\ (keepS (linkOf s i j) m.no).came + n <= ((keepS (linkOf s i j) m.no).all.length : Int)
   rw [kc, ka]
   have := hlk.came
   omega
  ·intro k hk'
   have := hlk1.kept k hk'
   show 1 <= k /\ k <= ((keepS (linkOf s i j) m.no).all.length : Int) /\ k <= (keepS (linkOf s i j) m.no).came + n + 4
   omega
 refine ⟨hcm, h4.2, hF1, ?_, fun k hk => ?_⟩
 ·have hd : ∀ k ∈ (linkOf (setLink s i j (keepS (linkOf s i j) m.no)) i j).kept, k <= (linkOf (setLink s i j (keepS (linkOf s i j) m.no)) i j).came + 4 := fun k hk' => by
   rw [hset] at hk' ⊢
   exact (hlk1.kept k hk').2.2
  have := comeS_fold (i := i) (j := j) n ((linkOf s i j).all.length + 1) (N + 1) 4 _ hF1 hi hj (by omega) hd hij (by rw [hset]; exact hcm) (by omega) h4.1
  rw [this, hset, ka, kc, setLink_set _ _ _ _ _ (by rw [h.llen]; exact hi)]
 ·have hlen : ((((linkOf s i j).all.drop (linkOf s i j).came.toNat).take k)).length <= 4 := by rw [List.length_take]; omega
  have hf := fold_fine (i := i) (j := j) (((linkOf s i j).all.drop (linkOf s i j).came.toNat).take k) (N + 1) _ hF2 hi hj (fun m' hm' => by
   obtain ⟨k', hk'⟩ := List.getElem?_of_mem (List.mem_of_mem_drop (List.mem_of_mem_take hm'))
   exact ⟨(hmsgs k' m' hk').1, k', calm_msg (hmsgs k' m' hk').2 (hmsgs k' m' hk').1 (Nat.le_succ _)⟩) (by omega)
  exact ⟨hf.1.more (by omega), hf.2.2⟩
theorem xin {part : Nat -> Nat} {i j : Nat} {w : World} {v : Value} {links : List (List LinkS)} {ls : List LinkS} {l : LinkS} (h : XInsAt part j w v links) (hi : links[i]? = some ls) (hj : ls[j]? = some l) (hij : i ≠ j) : ∃ (qs : List (Option Nat)) (q g c : Nat), RowIn (fun b => part b = 8) 199 1 optEnc w v qs /\ qs.length = links.length /\ (∀ i q ls l, qs[i]? = some q -> links[i]? = some ls -> ls[j]? = some l -> InEndAt part j i w l q) /\ qs[i]? = some (some q) /\ InAt (fun b => part b = 200 + 10 * j + i) w q l /\ v = .slice (some ⟨g, 0, none⟩) qs.length c /\ w.cell? ⟨g, i, none⟩ = some (.pointer (some ⟨q, 0, none⟩)) /\ g < w.heap.size := by
 obtain ⟨qs, h1, h2, h3⟩ := h
 have hil := (List.getElem?_eq_some_iff.1 hi).1
 obtain ⟨oq, hoq⟩ : ∃ q, qs[i]? = some q := ⟨_, List.getElem?_eq_getElem (by omega)⟩
 have he := h3 i oq ls l hoq hi hj
 cases oq with
 | none => exact absurd he hij
 | some q =>
  obtain ⟨g, c, rfl, -, hgl⟩ := World.ownsRow.form h1.1 (by omega)
  refine ⟨qs, q, g, c, h1, h2, h3, hoq, he.2, rfl, ?_, hgl⟩
  have := h1.1.cells (g := g) rfl (i * 1 + 0) _ (flat_get (sz := 1) (enc := optEnc) (fun _ => rfl) qs i (some q) 0 _ hoq rfl)
  rw [addr_add] at this
  simpa using this
theorem XAtO.rein0 {part : Nat -> Nat} {W W' : World} {B M : Nat} {s : RunS} {kv wv yv : Value} {xs : List XW} {i j q : Nat} {x : XW} {ls : List LinkS} {l l' : LinkS} {qs : List (Option Nat)} (h : XAtO part W B s kv wv yv M xs) (hi : xs[i]? = some x) (hlj : s.links[j]? = some ls) (hli : ls[i]? = some l) (hij : j ≠ i) (hqs : RowIn (fun b => part b = 8) 199 1 optEnc W x.inv qs) (hql : qs.length = s.links.length) (hqe : ∀ j q ls l, qs[j]? = some q -> s.links[j]? = some ls -> ls[i]? = some l -> InEndAt part i j W l q) (hq : qs[j]? = some (some q)) (hlk : l'.all = l.all /\ l'.known = l.known) (k : Kept (fun g => part g = 200 + 10 * i + j) W W')
  (hx : InAt (fun b => part b = 200 + 10 * i + j /\ b < W.heap.size) W' q l') : XAtO (ext W part 0) W' B { s with links := s.links.set j (ls.set i l') } kv wv yv M xs /\ Moved part (ext W part 0) W W' := by
 have hpB := h.pB
 have h5 := h.five
 have hjl := (List.getElem?_eq_some_iff.1 hlj).1
 have hll := h.lrow ls (List.mem_of_getElem? hlj)
 have hil := (List.getElem?_eq_some_iff.1 hli).1
 have R := h.rest (part' := ext W part 0) (200 + 10 * i + j) k (fun g hg => ext_old hg) (fun g _ hg => .inr hg)
 have hllen := h.llen
 refine ⟨⟨h.box.kept k (by omega), (ext_old h.box.lt).trans h.pB, R.kinds (by omega), R.wrow (by omega), h.wlen, fun i' x' y' hx' hy' => R.wat i' x' y' (by have h' : i' < s.W.length := (List.getElem?_eq_some_iff.1 hy').1; omega) hx' hy', by simpa using h.llen, fun ls' hls' => ?_, h5, fun i' x' ls' hx' hl' => ?_, fun i' x' hx' => ?_, R.yrow (by omega), R.vals (by omega)⟩, Moved.of _ k (fun g hl hg => by omega)⟩
 ·rcases List.mem_or_eq_of_mem_set hls' with h' | rfl
  ·exact h.lrow ls' h'
  ·simpa using hll
 ·have hl1 : (s.links.set j (ls.set i l'))[i']? = some ls' := hl'
  have hi5 : i' < s.W.length := by have := (List.getElem?_eq_some_iff.1 hl').1; simp at this; omega
  by_cases e : i' = j
  ·subst e
   rw [List.getElem?_set_self hjl] at hl1
   obtain rfl := Option.some.inj hl1
   obtain ⟨ps, p1, p2, p3⟩ := R.lat i' x' ls (by omega) (.inr (by omega)) hx' hlj
   refine ⟨ps, p1, by simpa using p2, fun b p z hp hz => ?_⟩
   by_cases e : b = i
   ·subst e
    rw [List.getElem?_set_self hil] at hz
    obtain rfl := Option.some.inj hz
    have := p3 b p l hp hli
    cases p with
    | none => exact ⟨this.1, by rw [hlk.1]; exact this.2⟩
    | some p =>
     refine ⟨this.1, ?_⟩
     obtain ⟨c, cap, o1, o2, o3, o4, o5⟩ := this.2
     have hleft : l'.left = l.left := by unfold LinkS.left; rw [hlk.1, hlk.2]
     exact ⟨c, cap, by rw [hlk.1]; exact o1, o2, by rw [hleft]; exact o3, o4, by rw [hlk.1, hleft]; exact o5⟩
   ·rw [List.getElem?_set_ne (fun e' => e e'.symm)] at hz
    exact p3 b p z hp hz
  ·rw [List.getElem?_set_ne (fun e' => e e'.symm)] at hl1
   have := h.lrow ls' (List.mem_of_getElem? hl1)
   exact R.lat i' x' ls' (by omega) (.inr (by omega)) hx' hl1
 ·by_cases e : i' = i
  ·subst e
   rw [hi] at hx'
   obtain rfl := Option.some.inj hx'
   refine ⟨qs, hqs.kept k (fun g hg e => ⟨by omega, (ext_old hg).trans e⟩), by simpa using hql, fun b p row z hp hr hz => ?_⟩
   have hb5 : b < s.links.length := by have := (List.getElem?_eq_some_iff.1 hp).1; omega
   by_cases e : b = j
   ·subst e
    rw [hq] at hp
    obtain rfl := Option.some.inj hp
    have hr1 : (s.links.set b (ls.set i' l'))[b]? = some row := hr
    rw [List.getElem?_set_self hjl] at hr1
    obtain rfl := Option.some.inj hr1
    rw [List.getElem?_set_self hil] at hz
    obtain rfl := Option.some.inj hz
    exact ⟨hij, hx.kept (Kept.refl (fun _ => False) W') (fun b _ hb => ⟨fun h => h, (ext_old hb.2).trans hb.1⟩)⟩
   ·have hr1 : (s.links.set j (ls.set i' l'))[b]? = some row := hr
    rw [List.getElem?_set_ne (fun e' => e e'.symm)] at hr1
    exact (hqe b p row z hp hr1 hz).kept k (fun g hg e => ⟨by omega, (ext_old hg).trans e⟩)
  ·have hi5 : i' < s.W.length := by have := (List.getElem?_eq_some_iff.1 hx').1; have := h.wlen; omega
   have hI : i < s.W.length := by omega
   exact (R.iat i' x' (by omega) (by omega) hx').relink hlj hli (fun e' => absurd e'.symm e)
def ackS (l : LinkS) (no : Int) : LinkS := if l.known < no then { l with known := no } else l
theorem ackS_left {l : LinkS} {no : Int} (hk : 0 <= l.known /\ l.known <= l.all.length) : (ackS l no).left = l.left.drop (no - ((l.all.length : Int) - (l.left.length : Int))).toNat := by
 have hl : l.left.length = l.all.length - l.known.toNat := by unfold LinkS.left; rw [List.length_drop]
 have e : (l.all.length : Int) - (l.left.length : Int) = l.known := by omega
 rw [e]
 unfold ackS LinkS.left
 by_cases h : l.known < no
 ·rw [if_pos h, List.drop_drop]
  congr 1
  dsimp only
  omega
 ·rw [if_neg h]
  have e0 : (no - l.known).toNat = 0 := by omega
  rw [e0]
  rfl
theorem ackS_like (l : LinkS) (no : Int) : InLike l (ackS l no) := by
 unfold ackS
 split
 ·exact ⟨rfl, rfl, [], by simp⟩
 ·exact InLike.refl l
theorem ackS_all (l : LinkS) (no : Int) : (ackS l no).all = l.all := by
 unfold ackS
 split <;> rfl
theorem ack_x (i j : Nat) (no : Int) {part : Nat -> Nat} {w : World} {B M q : Nat} {s : RunS} {kv wv yv : Value} {xs : List XW} {x : XW} {ls : List LinkS} {l : LinkS} {qs : List (Option Nat)} (h : XAtO part w B s kv wv yv M xs) (hx : xs[j]? = some x) (hls : s.links[j]? = some ls) (hl : ls[i]? = some l) (hij : i ≠ j) (hqr : RowIn (fun b => part b = 9) 198 1 optEnc w x.outv qs) (hql : qs.length = ls.length) (hqe : ∀ i q l, qs[i]? = some q -> ls[i]? = some l -> EndAt part j i w l q) (hq : qs[i]? = some (some q)) (hout : OutAt (fun b => part b = 100 + 10 * j + i) w q l) (hk : 0 <= l.known /\ l.known <= l.all.length) (hn : l.all.length <= 100000000) :
  Calls Tryz.prog 163 #[.pointer (some ⟨q, 0, none⟩), .int .i64 no] w fun e w' => ∃ v, e = .returned v /\ ∃ part', XAtO part' w' B { s with links := s.links.set j (ls.set i (ackS l no)) } kv wv yv M xs /\ XMoved part part' w w' := by
 obtain ⟨c, cap, o1, o2, o3, o4, o5, o6, o7⟩ := hout
 have hll : l.left.length <= l.all.length := by unfold LinkS.left; rw [List.length_drop]; omega
 have hqc : q ≠ c := fun e => by
  obtain ⟨a, b, hch⟩ := o3
  subst e
  have h1 : w.heap[q]? = _ := o1
  rw [hch] at h1
  cases h1
 refine (known_calls q c cap l.all.length no l.left w o1 o3 hn hll).mono ?_
 rintro e w' ⟨v, rfl, h1, h2⟩
 rw [<- ackS_left hk] at h1
 have hlen : (ackS l no).left.length <= l.left.length := by rw [ackS_left hk, List.length_drop]; omega
 have hq' := o1.kept h2 hqc
 have hql2 := o1.lt
 have hcl := o3.lt
 obtain ⟨h3, hm3⟩ := h.relink (l' := ackS l no) hx hls hij hqr hql hqe hq hl (ackS_like l no) (h2.mono (fun b _ e => by subst e; exact o4)) ⟨c, cap, by rw [ackS_all]; exact hq', .inl ⟨o2, hql2⟩, h1, .inl ⟨o4, hcl⟩, o5, by rw [ackS_all]; exact o6, by omega⟩
 exact ⟨v, rfl, _, h3, hm3⟩
structure ArriveAt (N : Nat) (s : RunS) (i j : Nat) (m : MsgS) : Prop where
 fine : Fine N s
 le : N + 5 <= 900000
 calm : Calm s
 src : m.src = i
 dst : m.dst = j
 hi : i < s.W.length
 hj : j < s.W.length
 ne : i ≠ j
theorem linkOf_get {s : RunS} {a b : Nat} {ls : List LinkS} {l : LinkS} (h1 : s.links[a]? = some ls) (h2 : ls[b]? = some l) : linkOf s a b = l := by
 unfold linkOf
 rw [h1, Option.getD_some, h2, Option.getD_some]
theorem ArriveAt.link {N : Nat} {s : RunS} {i j : Nat} {m : MsgS} (h : ArriveAt N s i j m) {a b : Nat} (ha : a < s.W.length) (hb : b < s.W.length) : ∃ ls l, s.links[a]? = some ls /\ ls[b]? = some l /\ linkOf s a b = l := by
 obtain ⟨ls, hls⟩ : ∃ ls, s.links[a]? = some ls := ⟨_, List.getElem?_eq_getElem (by rw [h.fine.llen]; exact ha)⟩
 obtain ⟨l, hl⟩ : ∃ l, ls[b]? = some l := ⟨_, List.getElem?_eq_getElem (by rw [h.fine.lrow ls (List.mem_of_getElem? hls)]; exact hb)⟩
 exact ⟨ls, l, hls, hl, linkOf_get hls hl⟩
theorem XAtO.wcell {part : Nat -> Nat} {W : World} {B M n c gw j : Nat} {s : RunS} {kv yv : Value} {xs : List XW} {x : XW} (h : XAtO part W B s kv (.slice (some ⟨gw, 0, none⟩) n c) yv M xs) (hx : xs[j]? = some x) (o : Nat) (u : Value) (hu : (xwEnc x)[o]? = some u) : W.cell? ⟨gw, j * 7 + o, none⟩ = some u := by
 have hl := h.xlen
 have h1 := h.wrow.1.cells (g := gw) rfl (j * 7 + o) _ (flat_get (sz := 7) (enc := xwEnc) (fun _ => rfl) xs j x o _ hx hu)
 rwa [addr_add] at h1
set_option maxHeartbeats 4000000 in
set_option maxRecDepth 100000 in
theorem arriveAck_x (m : MsgS) (i j : Nat) {part : Nat -> Nat} {w : World} {B M N : Nat} {s : RunS} {kv wv yv : Value} {xs : List XW} (h : XAtO part w B s kv wv yv M xs) (hA : ArriveAt N s i j m) (hk : m.kind = 0) :
  Calls Tryz.prog 148 #[.pointer (some ⟨B, 0, none⟩), .agg (msgCells m)] w fun e w' => ∃ v, e = .returned v /\ (v = .tuple #[] /\ ∃ part' yv' xs', XAtO part' w' B (setLink s j i (ackS (linkOf s j i) m.no)) kv wv yv' M xs' /\ Moved part part' w w') := by
 have hjl := hA.hj
 have hxl := h.wlen
 obtain ⟨x, hx⟩ : ∃ x, xs[j]? = some x := ⟨_, List.getElem?_eq_getElem (by omega)⟩
 obtain ⟨gw, wc, hwf, -, hgw⟩ := World.ownsRow.form h.wrow.1 (by omega)
 subst hwf
 obtain ⟨ls, l, hls, hl, hlk⟩ := hA.link hA.hj hA.hi
 have hlo := hA.fine.links j i hA.hj hA.hi
 rw [hlk] at hlo
 have hle := hA.le
 have hall := hlo.all
 obtain ⟨Z, hZ⟩ : ∃ Z, w.alloc (Obj.cells (msgCells m) 140) = Z := ⟨_, rfl⟩
 have gZ : Below w.heap.size w Z := by rw [<- hZ]; exact (Below.refl _ _).alloc (Nat.le_refl _) _
 have bZ : BoxAt Z w.heap.size 140 (msgCells m) := by rw [<- hZ]; exact BoxAt.new w _ _
 obtain ⟨hxZ, hmZ⟩ := h.later gZ
 have b3 : Z.cell? ⟨B, 3, none⟩ = some (.slice (some ⟨gw, 0, none⟩) xs.length wc) := hxZ.box.cell (o := 3) rfl
 have d1 : Z.cell? ⟨w.heap.size, 1, none⟩ = some (.int .i64 (j : Int)) := by rw [<- hA.dst]; exact bZ.cell (o := 1) rfl
 have j1 : (0 : Int) <= (j : Int) := by omega
 have j2 : (j : Int) < (xs.length : Int) := by omega
 have HXZ := hid_of hxZ
 have HMZ := hid_of hmZ
 have HBZ := hid_of bZ
 have HA := hid_of hA
 have HLO := hid_of hlo
 have HS : Hid (setLink s j i (ackS (linkOf s j i) m.no) = { s with links := s.links.set j (ls.set i (ackS l m.no)) }) := by
  show _ = _
  rw [hlk]
  unfold setLink
  rw [hls]
  rfl
 clear h gZ bZ hxZ hmZ hA hlo
 go_enter Tryz.func148, Tryz.ntmps148
 go_upto_region 1 with fail
 try rw [hZ]
 clear hZ
 go_cut [4] (fun pv wx => pv = .pointer (some ⟨gw, j * 7, none⟩) /\ Below Z.heap.size Z wx)
 case first =>
  go_quiet (fail)
  go_wp2_with fail
  go_meet
  case rel => exact ⟨rfl, by first | exact Below.refl _ _ | exact (Below.refl _ _).drew | exact below_drewN (Below.refl _ _) _⟩
 case rest =>
  obtain ⟨rfl, hbx⟩ := hcut
  rename World => wx
  have bx := HBZ.out.below hbx HBZ.out.lt
  obtain ⟨h1, hm1⟩ := HXZ.out.later hbx
  obtain ⟨qs, q, g, gc, hqr, hql, hqe, hq, hout, hvf, hcq, hgq⟩ := xlink (h1.lat j x ls hx hls) hl HA.out.ne
  have a2 := h1.wcell hx 2 _ rfl
  rw [hvf] at a2
  have e0 : wx.cell? ⟨w.heap.size, 0, none⟩ = some (.int .i64 (i : Int)) := by rw [<- HA.out.src]; exact bx.cell (o := 0) rfl
  have e2 := bx.cell (o := 2) rfl
  have e3 : wx.cell? ⟨w.heap.size, 3, none⟩ = some (.int .i64 0) := by rw [<- hk]; exact bx.cell (o := 3) rfl
  have hil := HA.out.hi
  have hll := HA.out.fine.lrow ls (List.mem_of_getElem? hls)
  have i1 : (0 : Int) <= (i : Int) := by omega
  have i2 : (i : Int) < (qs.length : Int) := by omega
  have HKN : Hid (∀ U, Below wx.heap.size wx U -> Calls Tryz.prog 163 #[.pointer (some ⟨q, 0, none⟩), .int .i64 m.no] U fun e w' => ∃ v, e = .returned v /\ ∃ part', XAtO part' w' B (setLink s j i (ackS (linkOf s j i) m.no)) kv (.slice (some ⟨gw, 0, none⟩) xs.length wc) yv M xs /\ XMoved part part' w w') := fun U hU => by
   obtain ⟨h2, hm2⟩ := h1.later hU
   have kU : Kept (fun b => wx.heap.size <= b) wx U := Kept.of_below hU (fun _ _ h => h)
   refine (ack_x i j m.no h2 hx hls hl HA.out.ne (hqr.kept kU (fun g hg e => ⟨by omega, (ext_old hg).trans e⟩)) hql (fun i' q' l' a b => (hqe i' q' l' a b).kept kU (fun g hg e => ⟨by omega, (ext_old hg).trans e⟩)) hq (hout.kept kU (fun g hg e => ⟨by omega, (ext_old hg).trans e⟩)) HLO.out.known (by omega)).mono ?_
   rintro e w' ⟨v, rfl, part', h3, hm3⟩
   exact ⟨v, rfl, part', by rw [HS.out]; exact h3, ((HMZ.out.trans hm1).trans hm2).trans hm3⟩
  clear hbx bx h1 hm1 hqr hqe hout hvf hk b3 d1
  go_upto_region 3 with fail
  go_still_tail 10, (by kernel_rfl)
  go_wp2_with (go_at_call 163; refine (HKN.out _ (by first | exact Below.refl _ _ | exact (Below.refl _ _).drew)).mono ?_; rintro e w3 ⟨v3, rfl, part3, h3, hm3⟩; have H3 := hid_of h3; have HM3 := hid_of hm3; clear h3 hm3)
  refine bodyPost_ret (results_none rfl _ _ _) rfl ?_
  exact ⟨_, rfl, rfl, part3, yv, xs, H3.out, HM3.out.base⟩
def thingS (s : RunS) (i j : Nat) (m : MsgS) : RunS := comeS ((linkOf s i j).all.length + 1) (setLink s i j (keepS (linkOf s i j) m.no)) i j
theorem comeAt_of {N : Nat} {s : RunS} {i j n : Nat} {m : MsgS} {ks : List KindS} {ans : Prop} {N' : Nat} (h : Fine N s) (hN : N <= 900000) (hi : i < s.W.length) (hj : j < s.W.length) (hm : MsgOK ks ans N' i j n m) : ComeAt N s i j m :=
 ⟨h.shaped, h.small, hN, h.known, Nat.le_trans h.vals hN, fun x hx => by have := (h.works x hx).few; omega, hm.src, hm.dst, hm.ne, hi, hj⟩
theorem fold_link {i j : Nat} {s : RunS} {l' : LinkS} {ms : List MsgS} {part : Nat -> Nat} {W : World} {B M : Nat} {kv wv yv : Value} {xs : List XW} (h : XAtO part W B (ms.foldl cameS (setLink s i j l')) kv wv yv M xs) (hd : ∀ m ∈ ms, m.dst.toNat ≠ i) (hi : i < xs.length) (hj : j < xs.length) : linkOf (ms.foldl cameS (setLink s i j l')) i j = l' := by
 rw [foldl_setLink l' ms s hd] at h ⊢
 have h1 := h.llen
 have h2 := h.wlen
 obtain ⟨T, hT⟩ : ∃ T, ms.foldl cameS s = T := ⟨_, rfl⟩
 rw [hT] at h h1 h2 ⊢
 have e1 : (setLink T i j l').links = T.links.set i ((T.links[i]?.getD []).set j l') := rfl
 have e2 : (setLink T i j l').W = T.W := rfl
 rw [e1, List.length_set, e2] at h1
 rw [e2] at h2
 have hil : i < T.links.length := by omega
 have hrow := h.lrow ((T.links[i]?.getD []).set j l') (by rw [e1]; exact List.mem_of_getElem? (List.getElem?_set_self hil))
 rw [List.length_set, e2] at hrow
 unfold linkOf
 rw [e1, List.getElem?_set_self hil, Option.getD_some, List.getElem?_set_self (by omega), Option.getD_some]
set_option maxHeartbeats 8000000 in
set_option maxRecDepth 100000 in
theorem arriveThing_x (m : MsgS) (i j : Nat) {part : Nat -> Nat} {w : World} {B M N : Nat} {s : RunS} {kv wv yv : Value} {xs : List XW} (h : XAtO part w B s kv wv yv M xs) (hA : ArriveAt N s i j m) (hk : m.kind ≠ 0) (hm : 1 <= m.no /\ (linkOf s i j).all[(m.no - 1).toNat]? = some m) :
  Calls Tryz.prog 148 #[.pointer (some ⟨B, 0, none⟩), .agg (msgCells m)] w fun e w' => ∃ v, e = .returned v /\ (v = .tuple #[] /\ ∃ part' yv' xs', XAtO part' w' B (wayS (thingS s i j m) { msg0 with src := (j : Int), dst := (i : Int), kind := 0, no := (linkOf (thingS s i j m) i j).came }) kv wv yv' M xs' /\ Moved part part' w w') := by
 have hjl := hA.hj
 have hil := hA.hi
 have hxl := h.wlen
 obtain ⟨x, hx⟩ : ∃ x, xs[j]? = some x := ⟨_, List.getElem?_eq_getElem (by omega)⟩
 obtain ⟨gw, wc, hwf, -, hgw⟩ := World.ownsRow.form h.wrow.1 (by omega)
 subst hwf
 obtain ⟨ls, l, hls, hl, hlk⟩ := hA.link hA.hi hA.hj
 have hlo := hA.fine.links i j hA.hi hA.hj
 rw [hlk] at hlo hm
 have hle := hA.le
 obtain ⟨Z, hZ⟩ : ∃ Z, w.alloc (Obj.cells (msgCells m) 140) = Z := ⟨_, rfl⟩
 have gZ : Below w.heap.size w Z := by rw [<- hZ]; exact (Below.refl _ _).alloc (Nat.le_refl _) _
 have bZ : BoxAt Z w.heap.size 140 (msgCells m) := by rw [<- hZ]; exact BoxAt.new w _ _
 obtain ⟨hxZ, hmZ⟩ := h.later gZ
 have b3 : Z.cell? ⟨B, 3, none⟩ = some (.slice (some ⟨gw, 0, none⟩) xs.length wc) := hxZ.box.cell (o := 3) rfl
 have d1 : Z.cell? ⟨w.heap.size, 1, none⟩ = some (.int .i64 (j : Int)) := by rw [<- hA.dst]; exact bZ.cell (o := 1) rfl
 have j1 : (0 : Int) <= (j : Int) := by omega
 have j2 : (j : Int) < (xs.length : Int) := by omega
 have hmno : m.no <= (l.all.length : Int) := by have := (List.getElem?_eq_some_iff.1 hm.2).1; omega
 have HXZ := hid_of hxZ
 have HMZ := hid_of hmZ
 have HBZ := hid_of bZ
 have HA := hid_of hA
 have HLO := hid_of hlo
 have HM := hid_of hm
 have HLK : Hid (linkOf s i j = l) := hlk
 have HAR : Hid (∀ n, Comes (keepS l m.no) n -> Arrives N s i j m l n) := fun n hcm => by
  have := arrives hA.fine hA.calm hA.le hA.hi hA.hj hA.ne (m := m) (n := n) (by rw [hlk]; exact hmno) (by rw [hlk]; exact hcm)
  rw [hlk] at this
  exact this
 clear h gZ bZ hxZ hmZ hA hlo hm hlk
 go_enter Tryz.func148, Tryz.ntmps148
 go_upto_region 1 with fail
 try rw [hZ]
 clear hZ
 go_cut [4] (fun pv wx => pv = .pointer (some ⟨gw, j * 7, none⟩) /\ Below Z.heap.size Z wx)
 case first =>
  go_quiet (fail)
  go_wp2_with fail
  go_meet
  case rel => exact ⟨rfl, by first | exact Below.refl _ _ | exact (Below.refl _ _).drew | exact below_drewN (Below.refl _ _) _⟩
 case rest =>
  obtain ⟨rfl, hbx⟩ := hcut
  rename World => wx
  have bx := HBZ.out.below hbx HBZ.out.lt
  obtain ⟨h1, hm1⟩ := HXZ.out.later hbx
  obtain ⟨qs, q, g, gc, hqr, hql, hqe, hq, hin, hvf, hcq, hgq⟩ := xin (h1.iat j x hx) hls hl HA.out.ne
  have a3 := h1.wcell hx 3 _ rfl
  rw [hvf] at a3
  have e0 : wx.cell? ⟨w.heap.size, 0, none⟩ = some (.int .i64 (i : Int)) := by rw [<- HA.out.src]; exact bx.cell (o := 0) rfl
  have e3 := bx.cell (o := 3) rfl
  have hk0 : (m.kind == 0) = false := by rw [beq_eq_false_iff_ne]; exact hk
  have hll := HA.out.fine.llen
  have i1 : (0 : Int) <= (i : Int) := by omega
  have i2 : (i : Int) < (qs.length : Int) := by omega
  have HBX := hid_of bx
  have HX1 := hid_of h1
  have HM1 := hid_of hm1
  have HQR := hid_of hqr
  have HQE := hid_of hqe
  have HQ : Hid (qs[i]? = some (some q)) := hq
  have HIN := hid_of hin
  have HQL : Hid (qs.length = s.links.length) := hql
  clear hbx bx h1 hm1 hqr hqe hin hvf hk b3 d1 hq
  go_upto_region 4 with fail
  go_cut [5] (fun pv wy => pv = .pointer (some ⟨q, 0, none⟩) /\ Below wx.heap.size wx wy)
  case first =>
   go_quiet (fail)
   go_wp2_with fail
   go_meet
   case rel => exact ⟨rfl, by first | exact Below.refl _ _ | exact (Below.refl _ _).drew | exact below_drewN (Below.refl _ _) _⟩
  case rest =>
   obtain ⟨rfl, hby⟩ := hcut
   rename World => wy
   have byx := HBX.out.below hby HBX.out.lt
   obtain ⟨h2, hm2⟩ := HX1.out.later hby
   have hpz : ext wx (ext Z (ext w part 0) 0) 0 w.heap.size = 0 := (ext_old HBX.out.lt).trans ((ext_old HBZ.out.lt).trans (ext_new (Nat.le_refl _)))
   obtain ⟨P2, hP2⟩ : ∃ P2, ext wx (ext Z (ext w part 0) 0) 0 = P2 := ⟨_, rfl⟩
   rw [hP2] at h2 hm2 hpz
   have kY : Kept (fun b => wx.heap.size <= b) wx wy := Kept.of_below hby (fun _ _ h => h)
   have hqr2 : RowIn (fun b => P2 b = 8) 199 1 optEnc wy x.inv qs := HQR.out.kept kY (fun g hg e => ⟨by omega, by rw [<- hP2]; exact (ext_old hg).trans e⟩)
   have hqe2 : ∀ i q ls l, qs[i]? = some q -> s.links[i]? = some ls -> ls[j]? = some l -> InEndAt P2 j i wy l q := fun i' q' ls' l' a b c => (HQE.out i' q' ls' l' a b c).kept kY (fun g hg e => ⟨by omega, by rw [<- hP2]; exact (ext_old hg).trans e⟩)
   have hin2 : InAt (fun b => P2 b = 200 + 10 * j + i /\ b < wy.heap.size) wy q l := HIN.out.kept kY (fun g hg e => ⟨by omega, by rw [<- hP2]; exact (ext_old hg).trans e, Nat.lt_of_lt_of_le hg hby.size⟩)
   have hqP : P2 q = 200 + 10 * j + i /\ q < wy.heap.size := by obtain ⟨_, _, h9, _⟩ := hin2; exact h9
   have HX2 := hid_of h2
   have HM2 : Hid (XMoved part P2 w wy) := (HMZ.out.trans HM1.out).trans hm2
   have HBY := hid_of byx
   have hlo := HLO.out
   have hca := hlo.came
   have hal := hlo.all
   have hkl := hlo.klen
   have HARR : Hid (Calls Tryz.prog 165 #[.pointer (some ⟨q, 0, none⟩), .agg (msgCells m)] wy fun e w' => ∃ v, e = .returned v /\ ∃ a n c, v = .slice a n c /\ Arrives N s i j m l n /\ w'.ownsRow wy.heap.size 140 15 (.slice a n c) n (((l.all.drop l.came.toNat).take n).flatMap msgEnc) /\ XAtO (ext wy P2 0) w' B (setLink s i j ((keepS l m.no).on n)) kv (.slice (some ⟨gw, 0, none⟩) xs.length wc) yv M xs /\ Moved part (ext wy P2 0) w w' /\ BoxAt w' w.heap.size 140 (msgCells m) /\ ∃ MM, BoxAt w' q 173 #[.int .i64 ((keepS l m.no).on n).came, .map (some MM)]) := by
    refine (arrive_in (fun b => P2 b = 200 + 10 * j + i /\ b < wy.heap.size) q l m wy hin2 (fun b hb => hb.2) ⟨hca.1, by omega⟩ (by omega) (by omega) (fun n' m' h' => (hlo.msgs n' m' h').no) HM.out).mono ?_
    rintro e w' ⟨v, rfl, n, hcm, hn, hrow, hI, hkp⟩
    obtain ⟨a, c, hvf⟩ := row_form hrow
    have hlk9 : ((keepS l m.no).on n).all = l.all /\ ((keepS l m.no).on n).known = l.known := ⟨(keepS_all l m.no).1, (keepS_all l m.no).2.1⟩
    obtain ⟨h5, hm5⟩ := h2.rein0 (l' := (keepS l m.no).on n) hx hls hl HA.out.ne hqr2 HQL.out hqe2 HQ.out hlk9 (hkp.mono (fun b _ e => e.1)) hI
    have hs9 : setLink s i j ((keepS l m.no).on n) = { s with links := s.links.set i (ls.set j ((keepS l m.no).on n)) } := by
     unfold setLink
     rw [hls]
     rfl
    obtain ⟨MM, hbq, -, -, -⟩ := hI
    refine ⟨v, rfl, a, n, c, hvf, HAR.out n hcm, by rw [<- hvf]; exact hrow, by rw [hs9]; exact h5, HM2.out.base.trans hm5, byx.kept hkp (fun e => by have := e.1; omega), MM, hbq⟩
   clear hby byx h2 hm2 kY hqr2 hqe2 hin2 hlo
   obtain ⟨m0, m1, m2, m3, m4, m5, m6, m7, m8, m9, m10, m11, m12, m13, m14⟩ := cells15 HBY.out
   have HP2 : Hid (ext wx (ext Z (ext w part 0) 0) 0 = P2) := hP2
   clear hP2 a3 e0 e3 hcq
   have HCO : Hid (∀ (a : Option Addr) (n c : Nat) (w1 : World), Arrives N s i j m l n -> w1.ownsRow wy.heap.size 140 15 (.slice a n c) n (((l.all.drop l.came.toNat).take n).flatMap msgEnc) -> XAtO (ext wy P2 0) w1 B (setLink s i j ((keepS l m.no).on n)) kv (.slice (some ⟨gw, 0, none⟩) xs.length wc) yv M xs -> Calls Tryz.prog 164 #[.pointer (some ⟨B, 0, none⟩), .slice a n c] w1 fun e w' => ∃ u, e = .returned u /\ (u = .tuple #[] /\ ∃ part' yv' xs', XAtO part' w' B (thingS s i j m) kv (.slice (some ⟨gw, 0, none⟩) xs.length wc) yv' M xs' /\ XMoved (ext wy P2 0) part' w1 w' /\ linkOf (thingS s i j m) i j = (keepS l m.no).on n)) := fun a n c w1 hAr hrow hx1 => by
    obtain ⟨ms, hms⟩ : ∃ ms, (l.all.drop l.came.toNat).take n = ms := ⟨_, rfl⟩
    have hlen : ms.length = n := by rw [<- hms, List.length_take, List.length_drop]; have := hAr.many; omega
    have hmem : ∀ m' ∈ ms, ∃ k, l.all[k]? = some m' := fun m' h' => by rw [<- hms] at h'; exact List.getElem?_of_mem (List.mem_of_mem_drop (List.mem_of_mem_take h'))
    have hcalm := HA.out.calm
    have hlo := HLO.out
    have hth : thingS s i j m = ms.foldl cameS (setLink s i j ((keepS l m.no).on n)) := by
     unfold thingS
     rw [HLK.out, hAr.fold, hms]
    rw [hms] at hrow
    rw [<- hlen] at hrow ⊢
    have hd : ∀ m' ∈ ms, m'.dst.toNat ≠ i := fun m' h' => by
     obtain ⟨k, hk⟩ := hmem m' h'
     have := (hlo.msgs k m' hk).dst
     have := HA.out.ne
     omega
    refine (come_x (N := N + 5) i j ms a c hx1 (ownsRow_base hrow (Nat.zero_le _)) (fun g e => ext_new (hrow.lt g e).1) (by rw [hlen]; have := hAr.many; omega) (fun k m' hk => ?_)).mono ?_
    ·obtain ⟨k', hk'⟩ := hmem m' (List.mem_of_getElem? hk)
     have hkl := (List.getElem?_eq_some_iff.1 hk).1
     have hmo := hlo.msgs k' m' hk'
     have hcl : CalmM m' := by
      have := CalmL.link hcalm.links i j
      have e : (s.links[i]?.getD [])[j]?.getD link0 = l := HLK.out
      rw [e] at this
      exact this m' (List.mem_of_getElem? hk')
     have etk : ms.take k = (l.all.drop l.came.toNat).take k := by rw [<- hms, List.take_take, Nat.min_eq_left (by omega)]
     have hE := hAr.each k (by omega)
     rw [<- etk] at hE
     have hF := hE.1
     have hWl := hE.2
     exact ⟨comeAt_of hF hle (by rw [hWl]; exact HA.out.hi) (by rw [hWl]; exact HA.out.hj) hmo, hcl, hmo.kind.1⟩
    ·rintro e w' ⟨u, rfl, rfl, part', yv', xs', h3, hm3⟩
     have hl3 : xs'.length = xs.length := h3.xlen
     refine ⟨_, rfl, rfl, part', yv', xs', by rw [hth]; exact h3, hm3, ?_⟩
     rw [hth]
     have hi' : i < xs'.length := by have := HA.out.hi; omega
     have hj' : j < xs'.length := by have := HA.out.hj; omega
     rw [hlen]
     exact fold_link h3 hd hi' hj'
   go_upto_region 6 with (first
    | (go_at_call 165; refine HARR.out.mono ?_; rintro e w1 ⟨v1, rfl, a1, n1, c1, rfl, hAr, hrow1, hx1, hmv1, hbm1, MM, hbq1⟩; have HAR1 := hid_of hAr; have HROW1 := hid_of hrow1; have HXX1 := hid_of hx1; have HMV1 := hid_of hmv1; have HBM1 := hid_of hbm1; have HBQ1 := hid_of hbq1; clear hAr hrow1 hx1 hmv1 hbm1 hbq1)
    | (go_at_call 164; refine (HCO.out a1 n1 c1 w1 HAR1.out HROW1.out HXX1.out).mono ?_; rintro e w2 ⟨v2, rfl, rfl, part2, yv2, xs2, hx2, hmv2, hlk2⟩; have HX3 := hid_of hx2; have HMV2 := hid_of hmv2; have HLK2 := hid_of hlk2; clear hx2 hmv2 hlk2))
   have hpm : ext wy P2 0 w.heap.size = 0 := (ext_old HBY.out.lt).trans hpz
   have hpq : ext wy P2 0 q = 200 + 10 * j + i := (ext_old hqP.2).trans hqP.1
   have hbm2 := HBM1.out.kept HMV2.out.kept (fun h => h hpm)
   have hbq2 : BoxAt w2 q 173 #[.int .i64 ((keepS l m.no).on n1).came, .map (some MM)] := by
    have h9 := (HMV2.out.ends q HBQ1.out.lt (by omega)).2
    have h8 : w1.heap[q]? = _ := HBQ1.out
    exact h9.trans h8
   rw [<- HLK2.out] at hbq2
   obtain ⟨cv, hcv⟩ : ∃ cv, (linkOf (thingS s i j m) i j).came = cv := ⟨_, rfl⟩
   rw [hcv] at hbq2
   have HCV : Hid ((linkOf (thingS s i j m) i j).came = cv) := hcv
   have HCM : Hid (∀ U, (U = w2 \/ U = w2.drew) -> Calls Tryz.prog 166 #[.pointer (some ⟨q, 0, none⟩)] U fun e w' => ∃ v, e = .returned v /\ (v = .int .i64 cv /\ w' = U)) := fun U hU => by
    have hb : BoxAt U q 173 #[.int .i64 cv, .map (some MM)] := by rcases hU with rfl | rfl <;> exact hbq2
    refine (inCame_calls q MM cv U hb).mono ?_
    rintro e w' ⟨rfl, rfl⟩
    exact ⟨_, rfl, rfl, rfl⟩
   have hs3 := HX3.out
   have u0 : w2.cell? ⟨w.heap.size, 0, none⟩ = some (.int .i64 (i : Int)) := by rw [<- HA.out.src]; exact hbm2.cell (o := 0) rfl
   have u1 : w2.cell? ⟨w.heap.size, 1, none⟩ = some (.int .i64 (j : Int)) := by rw [<- HA.out.dst]; exact hbm2.cell (o := 1) rfl
   have hway : (thingS s i j m).way.length <= 1000 := by
    have h9 := (HAR1.out.each n1 (Nat.le_refl _)).1
    rw [<- HAR1.out.fold] at h9
    have h8 : Fine (N + 5) (thingS s i j m) := by unfold thingS; rw [HLK.out]; exact h9
    have := h8.w60
    omega
   have HPU : Hid (∀ (U : World) (bb : Nat), U = (w2.drew).alloc (Obj.cells (msgCells { msg0 with src := (j : Int), dst := (i : Int), kind := 0, no := cv }) 140) -> bb = w2.heap.size -> Calls Tryz.prog 144 #[.pointer (some ⟨B, 4, none⟩), .slice (some ⟨bb, 0, none⟩) 1 1] U fun e w' => ∃ v, e = .returned v /\ (v = .tuple #[] /\ ∃ part' yv' xs', XAtO part' w' B (wayS (thingS s i j m) { msg0 with src := (j : Int), dst := (i : Int), kind := 0, no := cv }) kv (.slice (some ⟨gw, 0, none⟩) xs.length wc) yv' M xs' /\ Moved part part' w w')) := fun U bb hU hbb => by
    subst hU hbb
    obtain ⟨h9, hm9⟩ := HX3.out.later (((Below.refl w2.heap.size w2).drew).alloc (by simp) (Obj.cells (msgCells { msg0 with src := (j : Int), dst := (i : Int), kind := 0, no := cv }) 140))
    refine (put_x { msg0 with src := (j : Int), dst := (i : Int), kind := 0, no := cv } w2.heap.size h9 hway (BoxAt.new w2.drew _ _)).mono ?_
    rintro e w' ⟨v, rfl, rfl, part', yv', h10, hm10, -⟩
    exact ⟨_, rfl, rfl, part', yv', xs2, h10, HMV1.out.trans ((HMV2.out.trans hm9).trans hm10).base⟩
   simp only [msg0] at HPU
   clear hbm2 hbq2 hs3 m0 m1 m2 m3 m4 m5 m6 m7 m8 m9 m10 m11 m12 m13 m14 hcv
   go_region_law (first
    | (refine step_call1 (by rfl) 166 _ _ (by rfl) (.pointer (some ⟨q, 0, none⟩)) (by rfl) (enters_of Tryz.func166 (by kernel_rfl) rfl) (HCM.out _ (by first | exact .inl rfl | exact .inr rfl)) ?_; rintro v8 w8 ⟨rfl, rfl⟩)
    | (refine step_call2 (by rfl) 144 _ _ _ (by rfl) (.pointer (some ⟨B, 4, none⟩)) (.slice (some ⟨w2.heap.size, 0, none⟩) 1 1) (by rfl) (by rfl) (enters_of Tryz.func144 (by kernel_rfl) rfl) (HPU.out _ _ rfl rfl) ?_; rintro v9 w9 ⟨rfl, hres⟩; have HRES := hid_of hres; clear hres))
   all_goals
    go_wp2_with fail
    go_end0
    refine ⟨_, rfl, rfl, ?_⟩
    rw [HCV.out]
    exact HRES.out
theorem deliverS_ack {s : RunS} {k i j : Nat} {m : MsgS} (he : messageE s (k : Int) = 0) (hm : s.way[k]? = some m) (hk : m.kind = 0) (hs : m.src = i) (hd : m.dst = j) : deliverS s (k : Int) = (setLink { s with way := s.way.take k ++ s.way.drop (k + 1) } j i (ackS (linkOf { s with way := s.way.take k ++ s.way.drop (k + 1) } j i) m.no), 0) \/ deliverS s (k : Int) = ({ s with way := s.way.take k ++ s.way.drop (k + 1) }, 0) /\ ackS (linkOf { s with way := s.way.take k ++ s.way.drop (k + 1) } j i) m.no = linkOf { s with way := s.way.take k ++ s.way.drop (k + 1) } j i := by
 unfold deliverS ackS
 rw [if_neg (by rw [he]; simp)]
 dsimp only
 rw [Int.toNat_natCast, hm, Option.getD_some, if_pos hk, hs, hd, Int.toNat_natCast, Int.toNat_natCast]
 by_cases h : (linkOf { s with way := s.way.take k ++ s.way.drop (k + 1) } j i).known < m.no
 ·rw [if_pos h, if_pos h]; exact .inl rfl
 ·rw [if_neg h, if_neg h]; exact .inr ⟨rfl, rfl⟩
theorem deliverS_thing {s : RunS} {k i j : Nat} {m : MsgS} (he : messageE s (k : Int) = 0) (hm : s.way[k]? = some m) (hk : m.kind ≠ 0) (hs : m.src = i) (hd : m.dst = j) : deliverS s (k : Int) = (wayS (thingS { s with way := s.way.take k ++ s.way.drop (k + 1) } i j m) { msg0 with src := (j : Int), dst := (i : Int), kind := 0, no := (linkOf (thingS { s with way := s.way.take k ++ s.way.drop (k + 1) } i j m) i j).came }, 0) := by
 unfold deliverS thingS
 rw [if_neg (by rw [he]; simp)]
 dsimp only
 rw [Int.toNat_natCast, hm, Option.getD_some, if_neg hk, hs, hd, Int.toNat_natCast, Int.toNat_natCast]
theorem setLink_same {s : RunS} {i j : Nat} (hl : s.links.length = s.W.length) (hr : ∀ ls ∈ s.links, ls.length = s.W.length) (hi : i < s.W.length) (hj : j < s.W.length) : setLink s i j (linkOf s i j) = s := by
 unfold setLink linkOf
 have hl' : i < s.links.length := by rw [hl]; exact hi
 have hr' := hr _ (List.getElem_mem hl')
 rw [List.getElem?_eq_getElem hl']
 have hj' : j < s.links[i].length := by omega
 simp [List.getElem?_eq_getElem hj']
set_option maxHeartbeats 2000000 in
set_option maxRecDepth 100000 in
theorem deliver1_calls (F : Nat -> Prop) (B Br Bw k : Nat) (m : MsgS) (N : Nat) (s : RunS) (w : World) (hx : XOK F w B s) (hf : Fine N s) (hN : N + 5 <= 900000) (hc : Calm s) (he : messageE s (k : Int) = 0) (hm : s.way[k]? = some m) (hh : HeldAt w Br Bw B k) (hF : ¬ F Br /\ ¬ F Bw) :
  Calls Tryz.prog 147 #[.pointer (some ⟨Br, 0, none⟩), .pointer (some ⟨Bw, 0, none⟩)] w (XGives F w B (deliverS s (k : Int))) := by
 obtain ⟨part, hpF, kv, wv, yv, M, xs, h⟩ := hx
 have hw := hf.ways m (List.mem_of_getElem? hm)
 have h60 := hf.w60
 obtain ⟨i, hi⟩ : ∃ i : Nat, m.src = (i : Int) := ⟨m.src.toNat, by have := hw.src; omega⟩
 obtain ⟨j, hj⟩ : ∃ j : Nat, m.dst = (j : Int) := ⟨m.dst.toNat, by have := hw.dst; omega⟩
 have hil : i < s.W.length := by have := hw.src; have := hf.len; omega
 have hjl : j < s.W.length := by have := hw.dst; have := hf.len; omega
 have hne : i ≠ j := fun e => hc.way m (List.mem_of_getElem? hm) (by rw [hi, hj, e])
 have hA : ArriveAt N { s with way := s.way.take k ++ s.way.drop (k + 1) } i j m := ⟨hf.unway k, hN, hc.unway k, hi, hj, hil, hjl, hne⟩
 have r0 := hh.1.cell (o := 0) rfl
 have i0 := hh.2.cell (o := 0) rfl
 have hpr : part Br = 0 := by
  rcases Nat.eq_zero_or_pos (part Br) with h | h
  ·exact h
  ·exact absurd (hpF Br (by omega)) hF.1
 have HTK : Hid (∀ U, Below w.heap.size w U -> Calls Tryz.prog 142 #[.pointer (some ⟨B, 4, none⟩), .int .i64 (k : Int)] U fun e w' => ∃ v, e = .returned v /\ (v = .agg (msgCells m) /\ ∃ part' yv', XAtO part' w' B { s with way := s.way.take k ++ s.way.drop (k + 1) } kv wv yv' M xs /\ XMoved part part' w w' /\ w'.cell? ⟨Br, 0, none⟩ = some (.pointer (some ⟨B, 0, none⟩)))) := fun U hU => by
  obtain ⟨h2, hm2⟩ := h.later hU
  refine (take_x k m h2 hm (by omega)).mono ?_
  rintro e w' ⟨v, rfl, rfl, part', yv', h3, hm3⟩
  have hmv := hm2.trans hm3
  exact ⟨_, rfl, rfl, part', yv', h3, hmv, (hmv.kept.cell (p := ⟨Br, 0, none⟩) hh.1.lt (fun h => h hpr)).trans r0⟩
 have HAR : Hid (∀ (U : World) (part1 : Nat -> Nat) (yv1 : Value), XAtO part1 U B { s with way := s.way.take k ++ s.way.drop (k + 1) } kv wv yv1 M xs -> XMoved part part1 w U -> Calls Tryz.prog 148 #[.pointer (some ⟨B, 0, none⟩), .agg (msgCells m)] U fun e w' => ∃ v, e = .returned v /\ (v = .tuple #[] /\ XGives F w B (deliverS s (k : Int)) (.returned (.int .i64 0)) w')) := fun U part1 yv1 h1 hm1 => by
  have fin : ∀ (r : RunS) (w' : World) (part' : Nat -> Nat) (yv' : Value) (xs' : List XW), deliverS s (k : Int) = (r, 0) -> XAtO part' w' B r kv wv yv' M xs' -> Moved part part' w w' -> XGives F w B (deliverS s (k : Int)) (.returned (.int .i64 0)) w' := fun r w' part' yv' xs' e h2 hm2 => by
   obtain ⟨h5, h6⟩ := hm2.okX h2 hpF
   rw [e]
   exact ⟨rfl, h5, h6⟩
  by_cases hk : m.kind = 0
  ·refine (arriveAck_x m i j h1 hA hk).mono ?_
   rintro e w' ⟨v, rfl, rfl, part', yv', xs', h2, hm2⟩
   refine ⟨_, rfl, rfl, ?_⟩
   rcases deliverS_ack he hm hk hi hj with e | ⟨e, e2⟩
   ·exact fin _ w' part' yv' xs' e h2 (hm1.base.trans hm2)
   ·rw [e2, setLink_same hA.fine.llen hA.fine.lrow hA.hj hA.hi] at h2
    exact fin _ w' part' yv' xs' e h2 (hm1.base.trans hm2)
  ·obtain ⟨n, hn, hn2⟩ := hw.sent hk
   rw [hi, hj, Int.toNat_natCast, Int.toNat_natCast] at hn2
   refine (arriveThing_x m i j h1 hA hk ⟨by omega, by
    have e : (m.no - 1).toNat = n := by omega
    rw [e]
    exact hn2⟩).mono ?_
   rintro e w' ⟨v, rfl, rfl, part', yv', xs', h2, hm2⟩
   exact ⟨_, rfl, rfl, fin _ w' part' yv' xs' (deliverS_thing he hm hk hi hj) h2 (hm1.base.trans hm2)⟩
 clear h hh hA
 go_enter Tryz.func147, Tryz.ntmps147
 go_upto_region 1 with fail
 go_region_law (first
  | (refine step_call2 (by rfl) 142 _ _ _ (by rfl) (.pointer (some ⟨B, 4, none⟩)) (.int .i64 (k : Int)) (by rfl) (by rfl) (enters_of Tryz.func142 (by kernel_rfl) rfl) (HTK.out _ (by first | exact Below.refl _ _ | exact (Below.refl _ _).drew)) ?_; rintro v8 w8 ⟨rfl, part8, yv8, h8, hm8, r8⟩; have H8 := hid_of h8; have HM8 := hid_of hm8; clear h8 hm8)
  | (refine step_call2 (by rfl) 148 _ _ _ (by rfl) (.pointer (some ⟨B, 0, none⟩)) (.agg (msgCells m)) (by rfl) (by rfl) (enters_of Tryz.func148 (by kernel_rfl) rfl) (HAR.out _ part8 yv8 H8.out HM8.out) ?_; rintro v9 w9 ⟨rfl, hres⟩; have HRES := hid_of hres; clear hres))
 all_goals
  go_wp2_with fail
  go_ret
  exact HRES.out
theorem deliverMk_calls (rp : Option Addr) (i : Int) (w : World) : Calls Tryz.prog 100 #[.pointer rp, .int .i64 i] w fun e w' => e = .returned (.func (.func 147) #[] #[.pointer (some ⟨w.heap.size, 0, none⟩), .pointer (some ⟨w.heap.size + 1, 0, none⟩)]) /\ w' = held2 w rp i := by
 go_enter Tryz.func100, Tryz.ntmps100
 go_wp2_with fail
 go_ret
 exact ⟨rfl, rfl⟩
set_option maxHeartbeats 2000000 in
set_option maxRecDepth 100000 in
theorem deliver_opens (rp : Option Addr) (i : Int) (w : World) (R : Ending -> World -> Prop)
  (h : ∀ W1 W2 W3, held2 w rp i = W1 -> held2 W1 rp i = W2 -> W2.alloc (Obj.cells (([stepH 139 w] ++ [stepH 147 W1]).map stepVal).toArray 129) = W3 -> Calls Tryz.prog 76 #[.pointer rp, .slice (some ⟨W2.heap.size, 0, none⟩) 2 2] W3 fun e w' => (∃ r, e = .returned (.int .i64 r)) /\ R e w') :
  Calls Tryz.prog 57 #[.pointer rp, .int .i64 i] w R := by
 obtain ⟨W1, h1⟩ : ∃ W1, held2 w rp i = W1 := ⟨_, rfl⟩
 obtain ⟨W2, h2⟩ : ∃ W2, held2 W1 rp i = W2 := ⟨_, rfl⟩
 obtain ⟨W3, h3⟩ : ∃ W3, W2.alloc (Obj.cells (([stepH 139 w] ++ [stepH 147 W1]).map stepVal).toArray 129) = W3 := ⟨_, rfl⟩
 have HC := hid_of (h W1 W2 W3 h1 h2 h3)
 have H1 := hid_of h1
 have H2 := hid_of h2
 have H3 := hid_of h3
 clear h h1 h2 h3
 go_enter Tryz.func57, Tryz.ntmps57
 go_wp2_with (first
  | (go_at_call 93; refine (isMessage_calls rp i w).mono ?_; rintro e a1 ⟨rfl, hq⟩; obtain rfl : W1 = a1 := H1.out.symm.trans hq.symm; clear hq)
  | (go_at_call 100; refine (deliverMk_calls rp i W1).mono ?_; rintro e a1 ⟨rfl, hq⟩; obtain rfl : W2 = a1 := H2.out.symm.trans hq.symm; clear hq)
  | (go_at_call 76; refine Calls.at_world H3.out ?_; refine HC.out.mono ?_; rintro e a7 ⟨⟨r, rfl⟩, hr⟩))
 exact hr
theorem x_deliver_nil (i : Int) (w : World) : Calls Tryz.prog 57 #[.pointer none, .int .i64 i] w fun e w' => e = .returned (.int .i64 1) /\ Below w.heap.size w w' := by
 refine deliver_opens none i w _ (fun W1 W2 W3 h1 h2 h3 => ?_)
 refine (change_nil W2.heap.size 2 W3).mono ?_
 rintro e w' ⟨rfl, hb⟩
 have g1 := held2_below w none i
 have g2 := held2_below W1 none i
 rw [h1] at g1
 rw [h2] at g2
 have g3 : Below W2.heap.size W2 W3 := by rw [<- h3]; exact (Below.refl _ _).alloc (Nat.le_refl _) _
 have z1 := g1.size
 have z2 := g2.size
 have z3 := g3.size
 exact ⟨⟨1, rfl⟩, rfl, ((g1.trans (g2.mono (by omega))).trans (g3.mono (by omega))).trans (hb.mono (by omega))⟩
theorem x_deliver_calls (F : Nat -> Prop) (B N : Nat) (s : RunS) (i : Int) (w : World) (hx : XOK F w B s) (hf : Fine N s) (hN : N + 5 <= 900000) (hc : Calm s) (hd : s.done = false) :
  Calls Tryz.prog 57 #[.pointer (some ⟨B, 0, none⟩), .int .i64 i] w (XGives F w B (deliverS s i)) := by
 refine deliver_opens (some ⟨B, 0, none⟩) i w _ (fun W1 W2 W3 h1 h2 h3 => ?_)
 have g1 := held2_below w (some ⟨B, 0, none⟩) i
 have g2 := held2_below W1 (some ⟨B, 0, none⟩) i
 have a1 := held2_at w B i
 have a2 := held2_at W1 B i
 rw [h1] at g1 a1
 rw [h2] at g2 a2
 have g3 : Below W2.heap.size W2 W3 := by rw [<- h3]; exact (Below.refl _ _).alloc (Nat.le_refl _) _
 have bL : BoxAt W3 W2.heap.size 129 (([stepH 139 w] ++ [stepH 147 W1]).map stepVal).toArray := by rw [<- h3]; exact BoxAt.new W2 _ _
 have z1 := g1.size
 have z2 := g2.size
 have k2 : Below W1.heap.size W1 W3 := g2.trans (g3.mono z2)
 have hb : Below w.heap.size w W3 := g1.trans (k2.mono z1)
 have c1 := a1.below k2
 have c2 := a2.below g3
 clear a1 a2 h1 h2 h3 g1 g2 k2
 have hlow := hx.low
 refine (change_tests F B W2.heap.size s W3 (hx.later hb) [stepH 139 w] [if i < 0 \/ (s.way.length : Int) <= i then 10 else 0] (stepH 147 W1) (deliverS s i) w hb hx (by simp) (by simp) 129 bL ?over ?enter ?test ?bad ?last).mono (fun e w' h => ⟨⟨_, h.1⟩, h⟩)
 case over =>
  intro ho
  simp [deliverS, messageE_over hd ho]
 case enter =>
  intro f hf' args W
  simp at hf'
  rcases hf' with rfl | rfl
  ·exact enters_of Tryz.func139 (by kernel_rfl) rfl args W
  ·exact enters_of Tryz.func147 (by kernel_rfl) rfl args W
 case test =>
  intro ho j f e hj he hp W hW
  match j, hj, he with
  | 0, hj, he => cases hj; cases he; exact isMessage1_calls F B _ _ s i W ((hx.later hb).later hW) (c1.below hW)
  | (n + 1), hj, he => simp at hj
 case bad =>
  intro ho j e he hne hp
  have wi := messageE_run hd ho i
  match j, he with
  | 0, he => cases he; simp only [deliverS, wi, if_pos hne]
  | (n + 1), he => simp at he
 case last =>
  intro ho hp W hW
  have p0 := hp 0 _ (by simp) rfl
  have wi := messageE_run hd ho i
  rw [p0] at wi
  obtain ⟨q0, q1⟩ := messageE_in wi
  obtain ⟨k, rfl⟩ := Int.eq_ofNat_of_zero_le q0
  obtain ⟨m, hm⟩ : ∃ m, s.way[k]? = some m := ⟨_, List.getElem?_eq_getElem (by omega)⟩
  have hbW : Below w.heap.size w W := hb.trans (hW.mono hb.size)
  have h9 := deliver1_calls (fun b => F b /\ b < w.heap.size) B _ _ k m N s W (hlow.later hbW) hf hN hc wi hm (c2.below hW) ⟨fun h => by omega, fun h => by omega⟩
  exact h9
end Go.Proofs.YteahdfeialekbaaGreatDoor
