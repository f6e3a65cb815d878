/-
  The tests and the deed of Run.Steal: another one, idle, no answer awaited; a Request is sent.
-/
import Derived.Test.YteahdfeialekbaaGreatDoorXSend
import Derived.Test.YteahdfeialekbaaGreatDoorXAgain
import Derived.StillTailTactics
import Derived.Test.YteahdfeialekbaaGreatDoorRefSteal
import Derived.Test.YteahdfeialekbaaGreatDoorXTaskPut
import Derived.Test.YteahdfeialekbaaGreatDoorRefCame5
namespace Go.Proofs.YteahdfeialekbaaGreatDoor
open Go Go.RowKit
def TwoAt (W : World) (Bw Bv : Nat) (i v : Int) : Prop := BoxAt W Bw 3 #[.int .i64 i] /\ BoxAt W Bv 3 #[.int .i64 v]
theorem TwoAt.below {W W' : World} {Bw Bv : Nat} {i v : Int} (h : TwoAt W Bw Bv i v) (hb : Below W.heap.size W W') : TwoAt W' Bw Bv i v := ⟨h.1.below hb h.1.lt, h.2.below hb h.2.lt⟩
theorem areTwo1_calls (Bw Bv : Nat) (i v : Int) (w : World) (h : TwoAt w Bw Bv i v) : Calls Tryz.prog 134 #[.pointer (some ⟨Bw, 0, none⟩), .pointer (some ⟨Bv, 0, none⟩)] w fun e w' => e = .returned (.int .i64 (if i = v then 7 else 0)) /\ Below w.heap.size w w' := by
 have a0 := h.1.cell (o := 0) rfl
 have a1 := h.2.cell (o := 0) rfl
 clear h
 obtain ⟨res, hres⟩ : ∃ res : Int, (if i = v then (7 : Int) else 0) = res := ⟨_, rfl⟩
 rw [hres]
 by_cases hiv : i = v
 ·obtain rfl : (7 : Int) = res := by rw [<- hres, if_pos hiv]
  have he : (i == v) = true := by simp [hiv]
  clear hiv hres
  go_enter Tryz.func134, Tryz.ntmps134
  go_wp2_with fail
  go_ret
  exact ⟨rfl, Below.refl _ _⟩
 ·obtain rfl : (0 : Int) = res := by rw [<- hres, if_neg hiv]
  have he : (i == v) = false := by rw [beq_eq_false_iff_ne]; exact hiv
  clear hiv hres
  go_enter Tryz.func134, Tryz.ntmps134
  go_wp2_with fail
  go_ret
  exact ⟨rfl, Below.refl _ _⟩
set_option maxHeartbeats 1000000 in
set_option maxRecDepth 100000 in
theorem isIdle1_calls (F : Nat -> Prop) (B Br Bw k : Nat) (s : RunS) (x : WorkerS) (w : World) (hx : XOK F w B s) (hk : s.W[k]? = some x) (hh : HeldAt w Br Bw B k) :
  Calls Tryz.prog 135 #[.pointer (some ⟨Br, 0, none⟩), .pointer (some ⟨Bw, 0, none⟩)] w fun e w' => e = .returned (.int .i64 (if x.tasks.length = 0 then 0 else 9)) /\ Below w.heap.size w w' := by
 obtain ⟨part, kv, yv, g, c, M, T, xs, y, -, h, -, -, ht, hc, hkl⟩ := x_worker hx hk
 have hb := h.box
 have hgl0 : g < w.heap.size := (h.wrow.1.lt g rfl).2
 clear h
 have HI : Hid (∀ U, Below w.heap.size w U -> Calls Tryz.prog 126 #[.pointer (some ⟨T, 0, none⟩)] U fun e w' => e = .returned (.bool (decide (x.tasks.length = 0))) /\ Below w.heap.size w w') := fun U hU => by
  refine (idle_calls (fun b => part b = 10 + k) T s.room x.tasks U (ht.kept (Kept.of_below hU (X := fun b => w.heap.size <= b) (fun _ _ h => h)) (fun g hg h => ⟨by omega, h⟩))).mono ?_
  rintro e w' ⟨rfl, rfl⟩
  exact ⟨rfl, hU⟩
 have b3 : w.cell? ⟨B, 3, none⟩ = some (.slice (some ⟨g, 0, none⟩) xs.length c) := hb.cell (o := 3) rfl
 have r0 := hh.1.cell (o := 0) rfl
 have i0 := hh.2.cell (o := 0) rfl
 have j1 : (0 : Int) <= (k : Int) := by omega
 have j2 : (k : Int) < (xs.length : Int) := by omega
 obtain ⟨eb, heb⟩ : ∃ eb, decide (x.tasks.length = 0) = eb := ⟨_, rfl⟩
 rw [heb] at HI
 have hif : (if x.tasks.length = 0 then (0 : Int) else 9) = if eb then 0 else 9 := by rw [<- heb]; simp
 rw [hif]
 clear hif heb hb hh ht
 go_enter Tryz.func135, Tryz.ntmps135
 cases eb
 all_goals
  go_upto_region 1 with fail
  go_still_tail 8, (by kernel_rfl)
  go_wp2_with (go_at_call 126; refine (HI.out _ ((Below.refl _ _).drew)).mono ?_; rintro e w1 ⟨rfl, hb1⟩)
  go_ret
  exact ⟨rfl, hb1⟩
set_option maxHeartbeats 1000000 in
set_option maxRecDepth 100000 in
theorem hasAnswer1_calls (F : Nat -> Prop) (B Br Bw k : Nat) (s : RunS) (x : WorkerS) (w : World) (hx : XOK F w B s) (hk : s.W[k]? = some x) (hh : HeldAt w Br Bw B k) :
  Calls Tryz.prog 136 #[.pointer (some ⟨Br, 0, none⟩), .pointer (some ⟨Bw, 0, none⟩)] w fun e w' => e = .returned (.int .i64 (if x.asked = true then 9 else 0)) /\ Below w.heap.size w w' := by
 obtain ⟨part, kv, yv, g, c, M, T, xs, y, -, h, hy, -, ht, hc, hkl⟩ := x_worker hx hk
 have b3 : w.cell? ⟨B, 3, none⟩ = some (.slice (some ⟨g, 0, none⟩) xs.length c) := h.box.cell (o := 3) rfl
 have a3 : w.cell? ⟨g, k * 7 + 1, none⟩ = some (.bool x.asked) := by
  have h1 := h.wrow.1.cells (g := g) rfl (k * 7 + 1) _ (flat_get (sz := 7) (enc := xwEnc) (fun _ => rfl) xs k y 1 _ hy rfl)
  rw [addr_add, (h.wat k y x hy hk).1.asked] at h1
  exact h1
 have r0 := hh.1.cell (o := 0) rfl
 have i0 := hh.2.cell (o := 0) rfl
 have j1 : (0 : Int) <= (k : Int) := by omega
 have j2 : (k : Int) < (xs.length : Int) := by omega
 obtain ⟨eb, heb⟩ : ∃ eb, x.asked = eb := ⟨_, rfl⟩
 rw [heb] at a3 ⊢
 clear heb hh ht h hc
 go_enter Tryz.func136, Tryz.ntmps136
 cases eb
 all_goals
  go_upto_region 1 with fail
  go_quiet (fail)
  go_wp2_with fail
  go_ret
  exact ⟨rfl, below_drewN (Below.refl _ _) _⟩
theorem sendS_post (s : RunS) (i j : Nat) (m : MsgS) (hk : m.kind ≠ 2 /\ m.kind ≠ 4) (h0 : m.src = i) (h1 : m.dst = j) : sendS s m = postS s i j m := by
 have h2 : ¬ (m.kind = 2 \/ m.kind = 4) := by omega
 simp only [sendS, postS, LinkS.sent, h2, if_false, h0, h1, Int.toNat_natCast]
set_option maxHeartbeats 4000000 in
set_option maxRecDepth 100000 in
theorem sendRequest1_calls (F : Nat -> Prop) (B Br Bw Bv k j : Nat) (s : RunS) (x : WorkerS) (ls : List LinkS) (l : LinkS) (w : World) (hx : XOK F w B s) (hk : s.W[k]? = some x) (hls : s.links[k]? = some ls) (hl : ls[j]? = some l) (hij : j ≠ k) (hkn : l.known.toNat <= l.all.length) (hn : l.all.length <= 100000000) (hy : s.way.length <= 1000)
  (hh : HeldAt w Br Bw B k) (hv : BoxAt w Bv 3 #[.int .i64 (j : Int)]) (hF : ¬ F Br /\ ¬ F Bw /\ ¬ F Bv) :
  Calls Tryz.prog 137 #[.pointer (some ⟨Br, 0, none⟩), .pointer (some ⟨Bw, 0, none⟩), .pointer (some ⟨Bv, 0, none⟩)] w (XGives F w B (sendS { s with W := s.W.set k { x with asked := true } } { msg0 with src := (k : Int), dst := (j : Int), kind := 1 }, 0)) := by
 obtain ⟨part, kv, yv, g, c, M, T, xs, y, hpF, h, hy', -, -, hc, hkl⟩ := x_worker hx hk
 have b3 : w.cell? ⟨B, 3, none⟩ = some (.slice (some ⟨g, 0, none⟩) xs.length c) := h.box.cell (o := 3) rfl
 have hrow := h.wrow
 have hxw := h.wat k y x hy' hk
 have a3 : w.cell? ⟨g, k * 7 + 1, none⟩ = some (.bool x.asked) := by
  have h1 := h.wrow.1.cells (g := g) rfl (k * 7 + 1) _ (flat_get (sz := 7) (enc := xwEnc) (fun _ => rfl) xs k y 1 _ hy' rfl)
  rw [addr_add, hxw.1.asked] at h1
  exact h1
 obtain ⟨cur, hcur⟩ : ∃ cur, BoxAt w g 136 cur := by
  obtain ⟨cs, hcs⟩ := row_obj h.wrow.1 (g := g) rfl
  exact ⟨cs, hcs⟩
 have f3 := hcur.frozen (k * 7 + 1)
 obtain ⟨Y, hY⟩ : ∃ Y, (w.drew).setCell ⟨g, k * 7 + 1, none⟩ (.bool true) = Y := ⟨_, rfl⟩
 have kY : Kept (· = g) w Y := by rw [<- hY]; exact (Kept.refl (· = g) w).drew.setCell (.inl (by rfl)) _
 have rY : Y.ownsRow 0 136 7 (.slice (some ⟨g, 0, none⟩) xs.length c) (xs.set k { y with asked := true }).length ((xs.set k { y with asked := true }).flatMap xwEnc) := by
  have h1 := row_putAll [.bool true] (xs.flatMap xwEnc) (k * 7 + 1) w.drew h.wrow.1 (by simp; omega)
  have h2 : setAll (xs.flatMap xwEnc) (k * 7 + 1) [.bool true] = (xs.set k { y with asked := true }).flatMap xwEnc := by
   simp only [setAll]
   refine flat_set (sz := 7) (enc := xwEnc) (fun _ => rfl) xs k y _ 1 _ hy' (by omega) ?_
   simp [xwEnc]
  rw [h2] at h1
  rw [List.length_set, <- hY]
  exact h1
 obtain ⟨h2, hm2⟩ := h.renote (x' := { y with asked := true }) (y' := { x with asked := true }) hy' hk rfl ⟨rfl, hxw.1.sent, hxw.1.came, hxw.1.black⟩ ⟨rfl, rfl, rfl⟩ (kY.mono (fun b _ e => by subst e; exact h.wrow.2 b rfl)) rY
 have hpg : part g = 7 := h.wrow.2 g rfl
 have nF : ∀ b, ¬ F b -> b ≠ g := fun b hb e => hb (hpF b (by rw [e]; omega))
 have r0 := hh.1.cell (o := 0) rfl
 have i0 := hh.2.cell (o := 0) rfl
 have r1 := (hh.1.kept kY (nF _ hF.1)).cell (o := 0) rfl
 have i1 := (hh.2.kept kY (nF _ hF.2.1)).cell (o := 0) rfl
 have v1 := (hv.kept kY (nF _ hF.2.2)).cell (o := 0) rfl
 have j1 : (0 : Int) <= (k : Int) := by omega
 have j2 : (k : Int) < (xs.length : Int) := by omega
 have HSD : Hid (Calls Tryz.prog 138 #[.pointer (some ⟨B, 0, none⟩), .int .i64 (k : Int), .int .i64 (j : Int), .slice (some ⟨Y.heap.size, 0, none⟩) 1 1] (Y.alloc (Obj.cells (msgCells { msg0 with kind := 1 }) 140)) fun e w' => ∃ v, e = .returned v /\ (v = .tuple #[] /\ XGives F w B (sendS { s with W := s.W.set k { x with asked := true } } { msg0 with src := (k : Int), dst := (j : Int), kind := 1 }, 0) (.returned (.int .i64 0)) w')) := by
  obtain ⟨h3, hm3⟩ := h2.later ((Below.refl _ _).alloc (Nat.le_refl _) (Obj.cells (msgCells { msg0 with kind := 1 }) 140))
  refine (send_x k j { msg0 with kind := 1 } Y.heap.size h3 hls hl hij hkn hn hy (BoxAt.new Y _ _)).mono ?_
  rintro e w' ⟨v, rfl, rfl, part', yv', h4, hm4⟩
  obtain ⟨h5, h6⟩ := ((hm2.trans hm3).trans hm4).okX h4 hpF
  refine ⟨_, rfl, rfl, rfl, ?_, h6⟩
  show XOK _ w' B (sendS _ _)
  rw [sendS_post _ k j _ (by simp) rfl rfl]
  exact h5
 clear h h2 hm2 hrow hxw hcur rY kY hh hv hc
 simp only [msg0] at HSD
 go_enter Tryz.func137, Tryz.ntmps137
 go_upto_region 1 with fail
 go_still_tail 7, (by kernel_rfl)
 go_wp2_with (go_at_call 138; refine HSD.out.mono ?_; rintro e w3 ⟨v3, rfl, rfl, hres⟩; have HRES := hid_of hres; clear hres)
 go_ret
 exact HRES.out
abbrev held2 (W : World) (rp : Option Addr) (i : Int) : World := (W.alloc (Obj.cells #[.pointer rp] 37)).alloc (Obj.cells #[.int .i64 i] 3)
abbrev two2 (W : World) (i v : Int) : World := (W.alloc (Obj.cells #[.int .i64 i] 3)).alloc (Obj.cells #[.int .i64 v] 3)
abbrev held3 (W : World) (rp : Option Addr) (i v : Int) : World := ((W.alloc (Obj.cells #[.pointer rp] 37)).alloc (Obj.cells #[.int .i64 i] 3)).alloc (Obj.cells #[.int .i64 v] 3)
theorem held2_below (W : World) (rp : Option Addr) (i : Int) : Below W.heap.size W (held2 W rp i) := ((Below.refl _ _).alloc (Nat.le_refl _) _).alloc (by simp) _
theorem two2_below (W : World) (i v : Int) : Below W.heap.size W (two2 W i v) := ((Below.refl _ _).alloc (Nat.le_refl _) _).alloc (by simp) _
theorem held3_below (W : World) (rp : Option Addr) (i v : Int) : Below W.heap.size W (held3 W rp i v) := (((Below.refl _ _).alloc (Nat.le_refl _) _).alloc (by simp) _).alloc (by simp; omega) _
theorem held2_at (W : World) (B : Nat) (i : Int) : HeldAt (held2 W (some ⟨B, 0, none⟩) i) W.heap.size (W.heap.size + 1) B i := ⟨(BoxAt.new W _ _).alloc _, boxAt_at _ _ _ _ (by simp)⟩
theorem two2_at (W : World) (i v : Int) : TwoAt (two2 W i v) W.heap.size (W.heap.size + 1) i v := ⟨(BoxAt.new W _ _).alloc _, boxAt_at _ _ _ _ (by simp)⟩
theorem held3_at (W : World) (B : Nat) (i v : Int) : HeldAt (held3 W (some ⟨B, 0, none⟩) i v) W.heap.size (W.heap.size + 1) B i /\ BoxAt (held3 W (some ⟨B, 0, none⟩) i v) (W.heap.size + 2) 3 #[.int .i64 v] := ⟨⟨((BoxAt.new W _ _).alloc _).alloc _, (boxAt_at _ _ _ _ (by simp)).alloc _⟩, boxAt_at _ _ _ _ (by simp)⟩
theorem areTwo_calls (i v : Int) (w : World) : Calls Tryz.prog 89 #[.int .i64 i, .int .i64 v] w fun e w' => e = .returned (.func (.func 134) #[] #[.pointer (some ⟨w.heap.size, 0, none⟩), .pointer (some ⟨w.heap.size + 1, 0, none⟩)]) /\ w' = two2 w i v := by
 go_enter Tryz.func89, Tryz.ntmps89
 go_wp2_with fail
 go_ret
 exact ⟨rfl, rfl⟩
theorem isIdle_calls (rp : Option Addr) (i : Int) (w : World) : Calls Tryz.prog 90 #[.pointer rp, .int .i64 i] w fun e w' => e = .returned (.func (.func 135) #[] #[.pointer (some ⟨w.heap.size, 0, none⟩), .pointer (some ⟨w.heap.size + 1, 0, none⟩)]) /\ w' = held2 w rp i := by
 go_enter Tryz.func90, Tryz.ntmps90
 go_wp2_with fail
 go_ret
 exact ⟨rfl, rfl⟩
theorem hasAnswer_calls (rp : Option Addr) (i : Int) (w : World) : Calls Tryz.prog 91 #[.pointer rp, .int .i64 i] w fun e w' => e = .returned (.func (.func 136) #[] #[.pointer (some ⟨w.heap.size, 0, none⟩), .pointer (some ⟨w.heap.size + 1, 0, none⟩)]) /\ w' = held2 w rp i := by
 go_enter Tryz.func91, Tryz.ntmps91
 go_wp2_with fail
 go_ret
 exact ⟨rfl, rfl⟩
theorem sendRequest_calls (rp : Option Addr) (i v : Int) (w : World) : Calls Tryz.prog 92 #[.pointer rp, .int .i64 i, .int .i64 v] w fun e w' => e = .returned (.func (.func 137) #[] #[.pointer (some ⟨w.heap.size, 0, none⟩), .pointer (some ⟨w.heap.size + 1, 0, none⟩), .pointer (some ⟨w.heap.size + 2, 0, none⟩)]) /\ w' = held3 w rp i v := by
 go_enter Tryz.func92, Tryz.ntmps92
 go_wp2_with fail
 go_ret
 exact ⟨rfl, rfl⟩
abbrev stealFs (W W1 W2 W3 W4 : World) : List StepV := [(120, #[], #[.pointer (some ⟨W.heap.size + 1, 0, none⟩), .pointer (some ⟨W.heap.size, 0, none⟩)]), (120, #[], #[.pointer (some ⟨W1.heap.size + 1, 0, none⟩), .pointer (some ⟨W1.heap.size, 0, none⟩)]), (134, #[], #[.pointer (some ⟨W2.heap.size, 0, none⟩), .pointer (some ⟨W2.heap.size + 1, 0, none⟩)]), (135, #[], #[.pointer (some ⟨W3.heap.size, 0, none⟩), .pointer (some ⟨W3.heap.size + 1, 0, none⟩)]), (136, #[], #[.pointer (some ⟨W4.heap.size, 0, none⟩), .pointer (some ⟨W4.heap.size + 1, 0, none⟩)])]
abbrev stealF (W5 : World) : StepV := (137, #[], #[.pointer (some ⟨W5.heap.size, 0, none⟩), .pointer (some ⟨W5.heap.size + 1, 0, none⟩), .pointer (some ⟨W5.heap.size + 2, 0, none⟩)])
set_option maxHeartbeats 2000000 in
set_option maxRecDepth 100000 in
theorem steal_opens (rp : Option Addr) (i v : Int) (w : World) (R : Ending -> World -> Prop)
  (h : ∀ W1 W2 W3 W4 W5 W6 W7, held2 w rp i = W1 -> held2 W1 rp v = W2 -> two2 W2 i v = W3 -> held2 W3 rp i = W4 -> held2 W4 rp i = W5 -> held3 W5 rp i v = W6 -> W6.alloc (Obj.cells ((stealFs w W1 W2 W3 W4 ++ [stealF W5]).map stepVal).toArray 129) = W7 -> Calls Tryz.prog 76 #[.pointer rp, .slice (some ⟨W6.heap.size, 0, none⟩) 6 6] W7 fun e w' => (∃ r, e = .returned (.int .i64 r)) /\ R e w') :
  Calls Tryz.prog 49 #[.pointer rp, .int .i64 i, .int .i64 v] w R := by
 obtain ⟨W1, h1⟩ : ∃ W1, held2 w rp i = W1 := ⟨_, rfl⟩
 obtain ⟨W2, h2⟩ : ∃ W2, held2 W1 rp v = W2 := ⟨_, rfl⟩
 obtain ⟨W3, h3⟩ : ∃ W3, two2 W2 i v = W3 := ⟨_, rfl⟩
 obtain ⟨W4, h4⟩ : ∃ W4, held2 W3 rp i = W4 := ⟨_, rfl⟩
 obtain ⟨W5, h5⟩ : ∃ W5, held2 W4 rp i = W5 := ⟨_, rfl⟩
 obtain ⟨W6, h6⟩ : ∃ W6, held3 W5 rp i v = W6 := ⟨_, rfl⟩
 obtain ⟨W7, h7⟩ : ∃ W7, W6.alloc (Obj.cells ((stealFs w W1 W2 W3 W4 ++ [stealF W5]).map stepVal).toArray 129) = W7 := ⟨_, rfl⟩
 have HC := hid_of (h W1 W2 W3 W4 W5 W6 W7 h1 h2 h3 h4 h5 h6 h7)
 have H1 : Hid ((w.alloc (Obj.cells #[.pointer rp] 37)).alloc (Obj.cells #[.int .i64 i] 3) = W1) := h1
 have H2 : Hid ((W1.alloc (Obj.cells #[.pointer rp] 37)).alloc (Obj.cells #[.int .i64 v] 3) = W2) := h2
 have H3 := hid_of h3
 have H4 := hid_of h4
 have H5 := hid_of h5
 have H6 := hid_of h6
 have H7 := hid_of h7
 clear h h1 h2 h3 h4 h5 h6 h7
 go_enter Tryz.func49, Tryz.ntmps49
 go_wp2_with (first
  | (go_at_call 73; refine (isWorker_calls rp _ _).mono ?_; rintro e a1 ⟨rfl, hq⟩; (first | (rw [H1.out] at hq; obtain rfl := hq.symm) | (rw [H2.out] at hq; obtain rfl := hq.symm)); clear hq)
  | (go_at_call 89; refine (areTwo_calls i v _).mono ?_; rintro e a1 ⟨rfl, hq⟩; obtain rfl : W3 = a1 := H3.out.symm.trans hq.symm; clear hq)
  | (go_at_call 90; refine (isIdle_calls rp i _).mono ?_; rintro e a1 ⟨rfl, hq⟩; obtain rfl : W4 = a1 := H4.out.symm.trans hq.symm; clear hq)
  | (go_at_call 91; refine (hasAnswer_calls rp i _).mono ?_; rintro e a1 ⟨rfl, hq⟩; obtain rfl : W5 = a1 := H5.out.symm.trans hq.symm; clear hq)
  | (go_at_call 92; refine (sendRequest_calls rp i v _).mono ?_; rintro e a1 ⟨rfl, hq⟩; obtain rfl : W6 = a1 := H6.out.symm.trans hq.symm; clear hq)
  | (go_at_call 76; refine Calls.at_world H7.out ?_; refine HC.out.mono ?_; rintro e a7 ⟨⟨r, rfl⟩, hr⟩))
 exact hr
theorem x_steal_nil (i v : Int) (w : World) : Calls Tryz.prog 49 #[.pointer none, .int .i64 i, .int .i64 v] w fun e w' => e = .returned (.int .i64 1) /\ Below w.heap.size w w' := by
 refine steal_opens none i v w _ (fun W1 W2 W3 W4 W5 W6 W7 h1 h2 h3 h4 h5 h6 h7 => ?_)
 refine (change_nil W6.heap.size 6 W7).mono ?_
 rintro e w' ⟨rfl, hb⟩
 have g1 := held2_below w none i
 have g2 := held2_below W1 none v
 have g3 := two2_below W2 i v
 have g4 := held2_below W3 none i
 have g5 := held2_below W4 none i
 have g6 := held3_below W5 none i v
 rw [h1] at g1
 rw [h2] at g2
 rw [h3] at g3
 rw [h4] at g4
 rw [h5] at g5
 rw [h6] at g6
 have g7 : Below W6.heap.size W6 W7 := by rw [<- h7]; exact (Below.refl _ _).alloc (Nat.le_refl _) _
 have z1 := g1.size
 have z2 := g2.size
 have z3 := g3.size
 have z4 := g4.size
 have z5 := g5.size
 have z6 := g6.size
 have z7 := g7.size
 exact ⟨⟨1, rfl⟩, rfl, ((((((g1.trans (g2.mono (by omega))).trans (g3.mono (by omega))).trans (g4.mono (by omega))).trans (g5.mono (by omega))).trans (g6.mono (by omega))).trans (g7.mono (by omega))).trans (hb.mono (by omega))⟩
theorem workerE_run {s : RunS} (hd : s.done = false) (ho : s.over = false) (t : Int) : workerE s t = if t < 0 \/ s.workers <= t then 7 else 0 := by
 have : startE s = 0 := by simp [startE, hd, ho]
 unfold workerE
 rw [this]
 by_cases h : t < 0 \/ s.workers <= t
 ·rw [if_pos ⟨rfl, h⟩, if_pos h]
 ·rw [if_neg (fun h' => h h'.2), if_neg h]
theorem workerE_over {s : RunS} (hd : s.done = false) (ho : s.over = true) (t : Int) : workerE s t = 6 := by
 simp [workerE, startE, hd, ho]
theorem if_zero {c : Prop} [Decidable c] {n : Int} (hn : n ≠ 0) (h : (if c then n else 0) = 0) : ¬ c := fun hc => hn (by rwa [if_pos hc] at h)
set_option maxHeartbeats 2000000 in
theorem x_steal_calls (F : Nat -> Prop) (B N : Nat) (s : RunS) (i v : Int) (w : World) (hx : XOK F w B s) (hf : Fits s) (hs : Shaped s) (hN : Small N s) (hN' : N <= 90000000) (hkn : ∀ ls ∈ s.links, ∀ l ∈ ls, l.known.toNat <= l.all.length) (hd : s.done = false) :
  Calls Tryz.prog 49 #[.pointer (some ⟨B, 0, none⟩), .int .i64 i, .int .i64 v] w (XGives F w B (stealS s i v)) := by
 refine steal_opens (some ⟨B, 0, none⟩) i v w _ (fun W1 W2 W3 W4 W5 W6 W7 h1 h2 h3 h4 h5 h6 h7 => ?_)
 have g1 := held2_below w (some ⟨B, 0, none⟩) i
 have g2 := held2_below W1 (some ⟨B, 0, none⟩) v
 have g3 := two2_below W2 i v
 have g4 := held2_below W3 (some ⟨B, 0, none⟩) i
 have g5 := held2_below W4 (some ⟨B, 0, none⟩) i
 have g6 := held3_below W5 (some ⟨B, 0, none⟩) i v
 have a1 := held2_at w B i
 have a2 := held2_at W1 B v
 have a3 := two2_at W2 i v
 have a4 := held2_at W3 B i
 have a5 := held2_at W4 B i
 have a6 := held3_at W5 B i v
 rw [h1] at g1 a1
 rw [h2] at g2 a2
 rw [h3] at g3 a3
 rw [h4] at g4 a4
 rw [h5] at g5 a5
 rw [h6] at g6 a6
 have g7 : Below W6.heap.size W6 W7 := by rw [<- h7]; exact (Below.refl _ _).alloc (Nat.le_refl _) _
 have bL : BoxAt W7 W6.heap.size 129 ((stealFs w W1 W2 W3 W4 ++ [stealF W5]).map stepVal).toArray := by rw [<- h7]; exact BoxAt.new W6 _ _
 have z1 := g1.size
 have z2 := g2.size
 have z3 := g3.size
 have z4 := g4.size
 have z5 := g5.size
 have z6 := g6.size
 have z7 := g7.size
 have k6 : Below W5.heap.size W5 W7 := g6.trans (g7.mono z6)
 have k5 : Below W4.heap.size W4 W7 := g5.trans (k6.mono z5)
 have k4 : Below W3.heap.size W3 W7 := g4.trans (k5.mono z4)
 have k3 : Below W2.heap.size W2 W7 := g3.trans (k4.mono z3)
 have k2 : Below W1.heap.size W1 W7 := g2.trans (k3.mono z2)
 have hb : Below w.heap.size w W7 := g1.trans (k2.mono z1)
 have c1 := a1.below k2
 have c2 := a2.below k3
 have c3 := a3.below k4
 have c4 := a4.below k5
 have c5 := a5.below k6
 have c6 : HeldAt W7 W5.heap.size (W5.heap.size + 1) B i /\ BoxAt W7 (W5.heap.size + 2) 3 #[.int .i64 v] := ⟨a6.1.below g7, a6.2.below g7 a6.2.lt⟩
 clear a1 a2 a3 a4 a5 a6 h1 h2 h3 h4 h5 h6 h7 g1 g2 g3 g4 g5 g6 k2 k3 k4 k5 k6
 have hlow := hx.low
 obtain ⟨x0, hx0⟩ : ∃ x0, s.W[i.toNat]?.getD worker0 = x0 := ⟨_, rfl⟩
 have hlen := hs.len
 have h5w := hs.five
 have valid : ∀ {t : Int}, ¬ (t < 0 \/ s.workers <= t) -> ∃ (k : Nat), t = (k : Int) /\ k < s.W.length := fun {t} ht => ⟨t.toNat, by omega, by omega⟩
 have getx : ∀ {k : Nat}, i = (k : Int) -> k < s.W.length -> s.W[k]? = some x0 := fun {k} hi hk => by
  rw [<- hx0, hi]
  simp [hk]
 refine (change_tests F B W6.heap.size s W7 (hx.later hb) (stealFs w W1 W2 W3 W4) [if i < 0 \/ s.workers <= i then 7 else 0, if v < 0 \/ s.workers <= v then 7 else 0, if i = v then 7 else 0, if x0.tasks.length = 0 then 0 else 9, if x0.asked = true then 9 else 0] (stealF W5) (stealS s i v) w hb hx (by simp) (by simp) 129 bL ?over ?enter ?test ?bad ?last).mono (fun e w' h => ⟨⟨_, h.1⟩, h⟩)
 case over =>
  intro ho
  simp [stealS, workerE_over hd ho]
 case enter =>
  intro f hf' args W
  simp at hf'
  rcases hf' with rfl | rfl | rfl | rfl | rfl | rfl
  ·exact enters_of Tryz.func120 (by kernel_rfl) rfl args W
  ·exact enters_of Tryz.func120 (by kernel_rfl) rfl args W
  ·exact enters_of Tryz.func134 (by kernel_rfl) rfl args W
  ·exact enters_of Tryz.func135 (by kernel_rfl) rfl args W
  ·exact enters_of Tryz.func136 (by kernel_rfl) rfl args W
  ·exact enters_of Tryz.func137 (by kernel_rfl) rfl args W
 case test =>
  intro ho j f e hj he hp W hW
  have hxW := (hx.later hb).later hW
  match j, hj, he with
  | 0, hj, he => cases hj; cases he; exact isWorker1_calls F B _ _ s i W hxW hf (c1.below hW)
  | 1, hj, he => cases hj; cases he; exact isWorker1_calls F B _ _ s v W hxW hf (c2.below hW)
  | 2, hj, he => cases hj; cases he; exact areTwo1_calls _ _ i v W (c3.below hW)
  | 3, hj, he =>
   cases hj; cases he
   obtain ⟨k, rfl, hk⟩ := valid (if_zero (by omega) (hp 0 _ (by omega) rfl))
   exact isIdle1_calls F B _ _ k s x0 W hxW (getx rfl hk) (c4.below hW)
  | 4, hj, he =>
   cases hj; cases he
   obtain ⟨k, rfl, hk⟩ := valid (if_zero (by omega) (hp 0 _ (by omega) rfl))
   exact hasAnswer1_calls F B _ _ k s x0 W hxW (getx rfl hk) (c5.below hW)
  | (n + 5), hj, he => simp at hj
 case bad =>
  intro ho j e he hne hp
  have wi := workerE_run hd ho i
  have wv := workerE_run hd ho v
  match j, he with
  | 0, he => cases he; simp only [stealS, wi, if_pos hne]
  | 1, he =>
   cases he
   have p0 := hp 0 _ (by omega) rfl
   simp only [stealS, wi, p0, wv, ne_eq, not_true_eq_false, if_false, if_pos hne]
  | 2, he =>
   cases he
   have p0 := hp 0 _ (by omega) rfl
   have p1 := hp 1 _ (by omega) rfl
   have hiv : i = v := by
    by_cases h : i = v
    ·exact h
    ·rw [if_neg h] at hne; exact absurd rfl hne
   simp [stealS, wv, p1, hiv]
  | 3, he =>
   cases he
   have p0 := hp 0 _ (by omega) rfl
   have p1 := hp 1 _ (by omega) rfl
   have p2 := if_zero (by omega) (hp 2 _ (by omega) rfl)
   obtain ⟨k, rfl, hk⟩ := valid (if_zero (by omega) p0)
   have hg := getx rfl hk
   have ht : x0.tasks ≠ [] := fun h => by rw [h] at hne; simp at hne
   have ht' : ¬ x0.tasks.length = 0 := fun h => ht (List.length_eq_zero_iff.1 h)
   simp only [stealS, wi, p0, wv, p1, ne_eq, not_true_eq_false, if_false, if_neg p2, Int.toNat_natCast, hg, if_neg ht']
   rw [if_pos (.inl ht)]
  | 4, he =>
   cases he
   have p0 := hp 0 _ (by omega) rfl
   have p1 := hp 1 _ (by omega) rfl
   have p2 := if_zero (by omega) (hp 2 _ (by omega) rfl)
   obtain ⟨k, rfl, hk⟩ := valid (if_zero (by omega) p0)
   have hg := getx rfl hk
   have ha : x0.asked = true := by
    by_cases h : x0.asked = true
    ·exact h
    ·rw [if_neg h] at hne; exact absurd rfl hne
   simp only [stealS, wi, p0, wv, p1, ne_eq, not_true_eq_false, if_false, if_neg p2, Int.toNat_natCast, hg, if_pos ha]
   rw [if_pos (.inr ha)]
  | (n + 5), he => simp at he
 case last =>
  intro ho hp W hW
  have wi := workerE_run hd ho i
  have wv := workerE_run hd ho v
  have p0 := hp 0 _ (by simp) rfl
  have p1 := hp 1 _ (by simp) rfl
  have p2 := if_zero (by omega) (hp 2 _ (by simp) rfl)
  have p3 := hp 3 _ (by simp) rfl
  have p4 := if_zero (by omega) (hp 4 _ (by simp) rfl)
  obtain ⟨k, rfl, hk⟩ := valid (if_zero (by omega) p0)
  obtain ⟨q, rfl, hq⟩ := valid (if_zero (by omega) p1)
  have hg := getx rfl hk
  obtain ⟨ls, l, hls, hl⟩ := hs.link hk hq
  have ht : x0.tasks = [] := by
   by_cases h : x0.tasks.length = 0
   ·exact List.length_eq_zero_iff.1 h
   ·rw [if_neg h] at p3; omega
  have hres : stealS s (k : Int) (q : Int) = (sendS { s with W := s.W.set k { x0 with asked := true } } { msg0 with src := (k : Int), dst := (q : Int), kind := 1 }, 0) := by
   simp only [stealS, wi, p0, wv, p1, ne_eq, not_true_eq_false, if_false, if_neg p2, Int.toNat_natCast, hg]
   rw [if_neg (by rintro (h | h); exact h ht; exact p4 h)]
  rw [hres]
  have hbW : Below w.heap.size w W := hb.trans (hW.mono hb.size)
  have c6W := c6.1.below hW
  exact sendRequest1_calls _ B _ _ _ k q s x0 ls l W (hlow.later hbW) hg hls hl (fun e => p2 (by rw [e])) (hkn ls (List.mem_of_getElem? hls) l (List.mem_of_getElem? hl)) (by have := hN.all ls (List.mem_of_getElem? hls) l (List.mem_of_getElem? hl); omega) (by have := hs.way; omega) c6W (c6.2.below hW c6.2.lt) ⟨fun h => by omega, fun h => by omega, fun h => by omega⟩
structure ComeAt (N : Nat) (s : RunS) (i j : Nat) (m : MsgS) : Prop where
 shape : Shaped s
 small : Small N s
 le : N <= 900000
 known : Known s
 vals : s.values.length <= 900000
 few : ∀ x ∈ s.W, x.tasks.length <= 1000000
 src : m.src = i
 dst : m.dst = j
 ne : i ≠ j
 hi : i < s.W.length
 hj : j < s.W.length
theorem ComeAt.link {N : Nat} {s : RunS} {i j : Nat} {m : MsgS} (h : ComeAt N s i j m) {a b : Nat} (ha : a < s.W.length) (hb : b < s.W.length) : ∃ ls l, s.links[a]? = some ls /\ ls[b]? = some l /\ l.known.toNat <= l.all.length /\ l.all.length <= N := by
 obtain ⟨ls, hls⟩ : ∃ ls, s.links[a]? = some ls := ⟨_, List.getElem?_eq_getElem (by rw [h.shape.llen]; exact ha)⟩
 have hlm := List.mem_of_getElem? hls
 obtain ⟨l, hl⟩ : ∃ l, ls[b]? = some l := ⟨_, List.getElem?_eq_getElem (by rw [h.shape.lrow ls hlm]; exact hb)⟩
 exact ⟨ls, l, hls, hl, h.known ls hlm l (List.mem_of_getElem? hl), h.small.all ls hlm l (List.mem_of_getElem? hl)⟩
theorem set_twice {α : Type} (l : List α) (i : Nat) (a b : α) : (l.set i a).set i b = l.set i b := by simp
set_option maxHeartbeats 2000000 in
set_option maxRecDepth 100000 in
theorem countCome_x (j : Nat) {part : Nat -> Nat} {w : World} {B M gw wc : Nat} {s : RunS} {kv yv : Value} {xs : List XW} {y : WorkerS} (h : XAtO part w B s kv (.slice (some ⟨gw, 0, none⟩) xs.length wc) yv M xs) (hy : s.W[j]? = some y) (hc : 0 <= y.came /\ y.came <= 1000000000) :
  Calls Tryz.prog 175 #[.pointer (some ⟨gw, j * 7, none⟩)] w fun e w' => ∃ v, e = .returned v /\ (v = .tuple #[] /\ ∃ part' xs', XAtO part' w' B { s with W := s.W.set j { y with came := y.came + 1, black := true } } kv (.slice (some ⟨gw, 0, none⟩) xs.length wc) yv M xs' /\ XMoved part part' w w') := by
 have hjl := (List.getElem?_eq_some_iff.1 hy).1
 have hxl := h.wlen
 obtain ⟨x, hx⟩ : ∃ x, xs[j]? = some x := ⟨_, List.getElem?_eq_getElem (by omega)⟩
 have hxw := h.wat j x y hx hy
 have hpg : part gw = 7 := h.wrow.2 gw rfl
 have a5 : w.cell? ⟨gw, j * 7 + 5, none⟩ = some (.int .i64 y.came) := by
  have h1 := h.wrow.1.cells (g := gw) rfl (j * 7 + 5) _ (flat_get (sz := 7) (enc := xwEnc) (fun _ => rfl) xs j x 5 _ hx rfl)
  rw [addr_add, hxw.1.came] at h1
  exact h1
 have a6 : w.cell? ⟨gw, j * 7 + 6, none⟩ = some (.bool y.black) := by
  have h1 := h.wrow.1.cells (g := gw) rfl (j * 7 + 6) _ (flat_get (sz := 7) (enc := xwEnc) (fun _ => rfl) xs j x 6 _ hx rfl)
  rw [addr_add, hxw.1.black] at h1
  exact h1
 obtain ⟨cur, hcur⟩ : ∃ cur, BoxAt w gw 136 cur := by
  obtain ⟨cs, hcs⟩ := row_obj h.wrow.1 (g := gw) rfl
  exact ⟨cs, hcs⟩
 have f5 := hcur.frozen (j * 7 + 5)
 have f6 := hcur.frozen (j * 7 + 6)
 have hwr : IntKind.i64.wrap (y.came + 1) = y.came + 1 := IntWalk.i64_in _ (by omega)
 obtain ⟨Y, hY⟩ : ∃ Y, (w.setCell ⟨gw, j * 7 + 5, none⟩ (.int .i64 (y.came + 1))).setCell ⟨gw, j * 7 + 6, none⟩ (.bool true) = Y := ⟨_, rfl⟩
 have kY : Kept (· = gw) w Y := by rw [<- hY]; exact ((Kept.refl (· = gw) w).setCell (.inl (by rfl)) _).setCell (.inl (by rfl)) _
 have r1 := row_note (x' := { x with came := y.came + 1 }) (u := .int .i64 (y.came + 1)) (o := 5) h.wrow.1 hx (by omega) rfl
 have hl1 : (xs.set j { x with came := y.came + 1 }).length = xs.length := List.length_set ..
 have r1' : (w.setCell ⟨gw, j * 7 + 5, none⟩ (.int .i64 (y.came + 1))).ownsRow 0 136 7 (.slice (some ⟨gw, 0, none⟩) (xs.set j { x with came := y.came + 1 }).length wc) (xs.set j { x with came := y.came + 1 }).length ((xs.set j { x with came := y.came + 1 }).flatMap xwEnc) := by
  rw [hl1] at r1 ⊢
  exact r1
 have r2 := row_note (x' := { x with came := y.came + 1, black := true }) (u := .bool true) (o := 6) r1' (List.getElem?_set_self (by omega)) (by omega) rfl
 rw [set_twice, hl1, hY] at r2
 obtain ⟨h2, hm2⟩ := h.renote (x' := { x with came := y.came + 1, black := true }) (y' := { y with came := y.came + 1, black := true }) hx hy rfl ⟨hxw.1.asked, hxw.1.sent, rfl, rfl⟩ ⟨rfl, rfl, rfl⟩ (kY.mono (fun b _ e => by subst e; exact hpg)) r2
 have HH := hid_of h2
 have HM := hid_of hm2
 clear h h2 hm2 hxw hcur r1 r1' r2 kY
 go_enter Tryz.func175, Tryz.ntmps175
 go_wp2_with fail
 go_end0
 try rw [hY]
 exact ⟨_, rfl, rfl, _, _, HH.out, HM.out⟩
theorem unask_x (j : Nat) {part : Nat -> Nat} {w : World} {B M gw wc : Nat} {s : RunS} {kv yv : Value} {xs : List XW} {y : WorkerS} (h : XAtO part w B s kv (.slice (some ⟨gw, 0, none⟩) xs.length wc) yv M xs) (hy : s.W[j]? = some y) :
  ∃ xs', XAtO (ext w part 0) (w.setCell ⟨gw, j * 7 + 1, none⟩ (.bool false)) B { s with W := s.W.set j { y with asked := false } } kv (.slice (some ⟨gw, 0, none⟩) xs.length wc) yv M xs' /\ XMoved part (ext w part 0) w (w.setCell ⟨gw, j * 7 + 1, none⟩ (.bool false)) /\ Kept (· = gw) w (w.setCell ⟨gw, j * 7 + 1, none⟩ (.bool false)) := by
 have hjl := (List.getElem?_eq_some_iff.1 hy).1
 have hxl := h.wlen
 obtain ⟨x, hx⟩ : ∃ x, xs[j]? = some x := ⟨_, List.getElem?_eq_getElem (by omega)⟩
 have hxw := h.wat j x y hx hy
 have hpg : part gw = 7 := h.wrow.2 gw rfl
 have kY : Kept (· = gw) w (w.setCell ⟨gw, j * 7 + 1, none⟩ (.bool false)) := (Kept.refl (· = gw) w).setCell (.inl (by rfl)) _
 have r1 := row_note (x' := { x with asked := false }) (u := .bool false) (o := 1) h.wrow.1 hx (by omega) rfl
 obtain ⟨h2, hm2⟩ := h.renote (x' := { x with asked := false }) (y' := { y with asked := false }) hx hy rfl ⟨rfl, hxw.1.sent, hxw.1.came, hxw.1.black⟩ ⟨rfl, rfl, rfl⟩ (kY.mono (fun b _ e => by subst e; exact hpg)) r1
 exact ⟨_, h2, hm2, kY⟩
set_option maxHeartbeats 4000000 in
set_option maxRecDepth 100000 in
theorem answer_x (m : MsgS) (i j : Nat) {part : Nat -> Nat} {w : World} {B M N : Nat} {s : RunS} {kv wv yv : Value} {xs : List XW} (h : XAtO part w B s kv wv yv M xs) (hc : ComeAt N s i j m) (hk : m.kind = 1) :
  Calls Tryz.prog 174 #[.pointer (some ⟨B, 0, none⟩), .int .i64 (j : Int), .int .i64 (i : Int)] w fun e w' => ∃ v, e = .returned v /\ (v = .tuple #[] /\ ∃ part' yv' xs', XAtO part' w' B (cameS s m) kv wv yv' M xs' /\ XMoved part part' w w') := by
 obtain ⟨y, hy⟩ : ∃ y, s.W[j]? = some y := ⟨_, List.getElem?_eq_getElem hc.hj⟩
 have hxl := h.wlen
 have hjl := hc.hj
 obtain ⟨x, hx⟩ : ∃ x, xs[j]? = some x := ⟨_, List.getElem?_eq_getElem (by omega)⟩
 obtain ⟨gw, wc, hwf, -, hgw⟩ := World.ownsRow.form h.wrow.1 (by omega)
 subst hwf
 obtain ⟨ls, l, hls, hl, hkn, hall⟩ := hc.link hc.hj hc.hi
 have hle := hc.le
 have hway := hc.shape.way
 have hym := List.mem_of_getElem? hy
 have hfew := hc.few y hym
 have hsent := hc.small.sent y hym
 have ht := (h.wat j x y hx hy).2
 have b3 : w.cell? ⟨B, 3, none⟩ = some (.slice (some ⟨gw, 0, none⟩) xs.length wc) := h.box.cell (o := 3) rfl
 have a0 : w.cell? ⟨gw, j * 7, none⟩ = some (.pointer (some ⟨x.T, 0, none⟩)) := by
  have h1 := h.wrow.1.cells (g := gw) rfl (j * 7 + 0) _ (flat_get (sz := 7) (enc := xwEnc) (fun _ => rfl) xs j x 0 _ hx rfl)
  rwa [addr_add] at h1
 have j1 : (0 : Int) <= (j : Int) := by omega
 have j2 : (j : Int) < (xs.length : Int) := by omega
 have HI := hid_of (idle_calls (fun b => part b = 10 + j) x.T s.room y.tasks w ht)
 have hcame : cameS s m = match y.tasks with
   | [] => sendS s { msg0 with src := (j : Int), dst := (i : Int), kind := 3 }
   | t :: r => sendS { s with W := s.W.set j { y with tasks := r } } { msg0 with src := (j : Int), dst := (i : Int), kind := 2, t := t } := by
  unfold cameS
  simp only [hk, if_true, hc.dst, hc.src, Int.toNat_natCast, hy, Option.getD_some]
  cases y.tasks <;> rfl
 have HCM := hid_of hcame
 have hij := hc.ne
 cases hyt : y.tasks with
 | nil =>
  rw [hyt] at HI HCM
  have HSD : Hid (Calls Tryz.prog 138 #[.pointer (some ⟨B, 0, none⟩), .int .i64 (j : Int), .int .i64 (i : Int), .slice (some ⟨w.heap.size, 0, none⟩) 1 1] (w.alloc (Obj.cells (msgCells { msg0 with kind := 3 }) 140)) fun e w' => ∃ v, e = .returned v /\ (v = .tuple #[] /\ ∃ part' yv' xs', XAtO part' w' B (cameS s m) kv (.slice (some ⟨gw, 0, none⟩) xs.length wc) yv' M xs' /\ XMoved part part' w w')) := by
   obtain ⟨h3, hm3⟩ := h.later ((Below.refl _ _).alloc (Nat.le_refl _) (Obj.cells (msgCells { msg0 with kind := 3 }) 140))
   refine (send_x j i { msg0 with kind := 3 } w.heap.size h3 hls hl hij hkn (by omega) (by omega) (BoxAt.new w _ _)).mono ?_
   rintro e w' ⟨v, rfl, rfl, part', yv', h4, hm4⟩
   refine ⟨_, rfl, rfl, part', yv', xs, ?_, hm3.trans hm4⟩
   rw [HCM.out]
   show XAtO part' w' B (sendS _ _) _ _ _ _ _
   rw [sendS_post _ j i _ (by simp) rfl rfl]
   exact h4
  simp only [msg0] at HSD
  clear h ht hc HCM hcame
  go_enter Tryz.func174, Tryz.ntmps174
  go_wp2_with (first
   | (go_at_call 126; refine HI.out.mono ?_; rintro e w1 ⟨rfl, hq⟩; obtain rfl := hq.symm)
   | (go_at_call 138; refine HSD.out.mono ?_; rintro e w3 ⟨v3, rfl, rfl, hres⟩; have HRES := hid_of hres; clear hres))
  refine bodyPost_ret (results_none rfl _ _ _) rfl ?_
  exact ⟨_, rfl, rfl, HRES.out⟩
 | cons t r =>
  rw [hyt] at HI HCM ht hfew
  have hlr : r.length <= 1900000 := by simp at hfew; omega
  have HTO : Hid (Calls Tryz.prog 193 #[.pointer (some ⟨x.T, 0, none⟩)] w fun e w' => ∃ v, e = .returned v /\ (v = .agg #[.string t.id, .int .i64 t.kind, .int .i64 t.arg] /\ ∃ part', XAtO part' w' B { s with W := s.W.set j { y with tasks := r } } kv (.slice (some ⟨gw, 0, none⟩) xs.length wc) yv M xs /\ XMoved part part' w w')) := by
   refine (takeOldest_calls (fun b => part b = 10 + j) x.T s.room t r w ht hlr).mono ?_
   rintro e w' ⟨v, rfl, rfl, h1, h2⟩
   obtain ⟨h3, hm3⟩ := h.retasks (l := r) hx hy h2 (h1.kept (Kept.refl (fun _ => False) w') (fun b _ hb => ⟨fun h => h, .inl hb⟩))
   exact ⟨_, rfl, rfl, _, h3, hm3⟩
  have HSD : Hid (∀ (U : World) (part1 : Nat -> Nat) (bb : Nat), bb = U.heap.size -> XAtO part1 U B { s with W := s.W.set j { y with tasks := r } } kv (.slice (some ⟨gw, 0, none⟩) xs.length wc) yv M xs -> XMoved part part1 w U -> Calls Tryz.prog 158 #[.pointer (some ⟨B, 0, none⟩), .int .i64 (j : Int), .int .i64 (i : Int), .slice (some ⟨bb, 0, none⟩) 1 1] (U.alloc (Obj.cells (msgCells { msg0 with kind := 2, t := t }) 140)) fun e w' => ∃ v, e = .returned v /\ (v = .tuple #[] /\ ∃ part' yv' xs', XAtO part' w' B (cameS s m) kv (.slice (some ⟨gw, 0, none⟩) xs.length wc) yv' M xs' /\ XMoved part part' w w')) := fun U part1 bb hbb hU hMU => by
   subst hbb
   obtain ⟨h3, hm3⟩ := hU.later ((Below.refl _ _).alloc (Nat.le_refl _) (Obj.cells (msgCells { msg0 with kind := 2, t := t }) 140))
   refine (sendWork_x j i { msg0 with kind := 2, t := t } U.heap.size h3 (y := { y with tasks := r }) (List.getElem?_set_self hjl) hls hl hij hkn (by omega) (by show s.way.length <= 1000; omega) (BoxAt.new U _ _) (ext_new (Nat.le_refl _)) (.inl rfl) ⟨hsent.1, by have := hsent.2; show y.sent <= _; omega⟩).mono ?_
   rintro e w' ⟨v, rfl, rfl, part', yv', xs', h4, hm4⟩
   refine ⟨_, rfl, rfl, part', yv', xs', ?_, (hMU.trans hm3).trans hm4⟩
   rw [HCM.out]
   exact h4
  simp only [msg0] at HSD
  clear h ht hc HCM hcame
  go_enter Tryz.func174, Tryz.ntmps174
  go_wp2_with (first
   | (go_at_call 126; refine HI.out.mono ?_; rintro e w1 ⟨rfl, hq⟩; obtain rfl := hq.symm)
   | (go_at_call 193; refine HTO.out.mono ?_; rintro e w2 ⟨v2, rfl, rfl, part1, hx2, hm2⟩; have HX2 := hid_of hx2; have HM2 := hid_of hm2; clear hx2 hm2)
   | (go_at_call 158; refine (HSD.out _ part1 _ rfl HX2.out HM2.out).mono ?_; rintro e w3 ⟨v3, rfl, rfl, hres⟩; have HRES := hid_of hres; clear hres))
  go_end0
  exact ⟨_, rfl, rfl, HRES.out⟩
end Go.Proofs.YteahdfeialekbaaGreatDoor
