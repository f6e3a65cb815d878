/-
  Run.Tick of the project, of a run in memory: the document's answer as plain data.
-/
import Derived.Test.YteahdfeialekbaaGreatDoorXTick
import Derived.Test.YteahdfeialekbaaGreatDoorTamed
import Derived.Test.YteahdfeialekbaaGreatDoorRefCame5
namespace Go.Proofs.YteahdfeialekbaaGreatDoor
open Go Go.RowKit
theorem x_tick_calls (F : Nat -> Prop) (B N : Nat) (s : RunS) (i : Int) (w : World) (hx : XOK F w B s) (hf : Fits s) (hs : Shaped s) (hN : Small N s) (hN' : N <= 90000000) (hd : s.done = false) :
  Calls Tryz.prog 55 #[.pointer (some ⟨B, 0, none⟩), .int .i64 i] w (XGives F w B (tickS s i)) := by
 refine tick_opens (some ⟨B, 0, none⟩) i w _ (fun W1 W2 W3 h1 h2 h3 => ?_)
 have g1 := held2_below w (some ⟨B, 0, none⟩) i
 have g2 := held2_below W1 (some ⟨B, 0, none⟩) i
 have a1 := held2_at w B i
 have a2 := held2_at W1 B i
 rw [h1] at g1 a1
 rw [h2] at g2 a2
 have g3 : Below W2.heap.size W2 W3 := by rw [<- h3]; exact (Below.refl _ _).alloc (Nat.le_refl _) _
 have bL : BoxAt W3 W2.heap.size 129 (([stepW 120 w] ++ [stepH 145 W1]).map stepVal).toArray := by rw [<- h3]; exact BoxAt.new W2 _ _
 have z1 := g1.size
 have z2 := g2.size
 have k2 : Below W1.heap.size W1 W3 := g2.trans (g3.mono z2)
 have hb : Below w.heap.size w W3 := g1.trans (k2.mono z1)
 have c1 := a1.below k2
 have c2 := a2.below g3
 clear a1 a2 h1 h2 h3 g1 g2 k2
 have hlow := hx.low
 refine (change_tests F B W2.heap.size s W3 (hx.later hb) [stepW 120 w] [if i < 0 \/ s.workers <= i then 7 else 0] (stepH 145 W1) (tickS s i) w hb hx (by simp) (by simp) 129 bL ?over ?enter ?test ?bad ?last).mono (fun e w' h => ⟨⟨_, h.1⟩, h⟩)
 case over =>
  intro ho
  simp [tickS, workerE_over hd ho]
 case enter =>
  intro f hf' args W
  simp at hf'
  rcases hf' with rfl | rfl
  ·exact enters_of Tryz.func120 (by kernel_rfl) rfl args W
  ·exact enters_of Tryz.func145 (by kernel_rfl) rfl args W
 case test =>
  intro ho j f e hj he hp W hW
  match j, hj, he with
  | 0, hj, he => cases hj; cases he; exact isWorker1_calls F B _ _ s i W ((hx.later hb).later hW) hf (c1.below hW)
  | (n + 1), hj, he => simp at hj
 case bad =>
  intro ho j e he hne hp
  have wi := workerE_run hd ho i
  match j, he with
  | 0, he => cases he; simp only [tickS, wi, if_pos hne]
  | (n + 1), he => simp at he
 case last =>
  intro ho hp W hW
  have p0 := hp 0 _ (by simp) rfl
  have wi := workerE_run hd ho i
  rw [p0] at wi
  have hv := if_zero (by omega) p0
  have hlen := hs.len
  obtain ⟨k, rfl⟩ := Int.eq_ofNat_of_zero_le (show 0 <= i by omega)
  have hkl : k < s.W.length := by omega
  obtain ⟨ls, l, hls, -⟩ := hs.link hkl hkl
  have hmem := List.mem_of_getElem? hls
  have hres : tickS s (k : Int) = (ls.foldl againS s, 0) := by simp [tickS, wi, hls]
  rw [hres]
  have hbW : Below w.heap.size w W := hb.trans (hW.mono hb.size)
  exact sendAgain1_calls _ B _ _ k s ls W (hlow.later hbW) hls (fun l hl => hN.known ls hmem l hl) (fun l hl => by have := hN.all ls hmem l hl; omega) hs.way (c2.below hW) ⟨fun h => by omega, fun h => by omega⟩
set_option maxHeartbeats 4000000 in
set_option maxRecDepth 100000 in
theorem changes8_calls (F : Nat -> Prop) (xp wp : Option Addr) (m : Nat) (hm : m <= 170000) (r W V i b c wk rm md pk pa : Int) (ka : Option Addr) (kn kc : Nat) (w : World) (ht : TwinAt F w xp wp m) :
  Calls Tryz.prog 22 #[.agg #[.pointer xp, .pointer wp], .agg (opV 8 r W V i b c wk rm md (.slice ka kn kc) pk pa)] w fun e w' => e = .returned (.bool true) /\ TwinAt (fun g => F g \/ w.heap.size <= g) w' xp wp (m + 1) /\ Kept F w w' := by
 obtain ⟨Z, hZ⟩ : ∃ Z, (w.alloc (Obj.cells #[.pointer xp, .pointer wp] 61)).alloc (Obj.cells (opV 8 r W V i b c wk rm md (.slice ka kn kc) pk pa) 58) = Z := ⟨_, rfl⟩
 have hbZ : Below w.heap.size w Z := by rw [<- hZ]; exact ((Below.refl _ _).alloc (Nat.le_refl _) _).alloc (by simp) _
 have bT : BoxAt Z w.heap.size 61 #[.pointer xp, .pointer wp] := by rw [<- hZ]; exact (BoxAt.new w _ _).alloc _
 have bO : BoxAt Z (w.heap.size + 1) 58 (opV 8 r W V i b c wk rm md (.slice ka kn kc) pk pa) := by rw [<- hZ]; exact boxAt_at _ _ _ _ (by simp)
 have sZ : Z.heap.size = w.heap.size + 2 := by rw [<- hZ]; simp
 have HBT := hid_of bT
 have HBO := hid_of bO
 have HBZ := hid_of hbZ
 have t0 := bT.cell (o := 0) rfl
 have o0 := bO.cell (o := 0) rfl
 have o2 := bO.cell (o := 2) rfl
 clear bT bO hbZ
 have HKZ : Hid (Kept (fun _ => False) w Z) := Kept.of_below HBZ.out (fun k h1 h2 => by omega)
 rcases ht with ⟨rfl, rfl⟩ | ⟨B1, B2, F1, F2, s, rfl, rfl, hx, hr, h12, h2, hal⟩
 ·have HW : Hid (Calls Tryz.prog 55 #[.pointer none, .int .i64 W] Z fun e w' => e = .returned (.int .i64 1) /\ Below Z.heap.size Z w') := x_tick_nil W Z
  go_enter Tryz.func22, Tryz.ntmps22
  go_wp2_with (first
   | (go_at_call 55; refine HW.out.mono ?_; rintro e w1 ⟨rfl, hb1⟩
      have t1 := (HBT.out.below hb1 (by omega)).cell (o := 1) rfl
      have o2' := (HBO.out.below hb1 (by omega)).cell (o := 2) rfl
      have HB1 := hid_of hb1
      clear hb1)
   | (go_at_call 56; refine ((ref_tick_nil W w1).mono fun e w' h => And.intro h.1 h.2.symm).mono ?_; rintro e w2 ⟨rfl, rfl⟩))
  go_ret
  exact ⟨rfl, .inl ⟨rfl, rfl⟩, HKZ.out.mono (fun _ _ h => h.elim) |>.later HB1.out (by omega)⟩
 ·have hxZ : XOK (fun g => F1 g /\ g < w.heap.size) Z B1 s := hx.kept HKZ.out (fun g hg h => ⟨fun h => h, h, hg⟩)
  have hrZ : RefOK (fun g => F2 g /\ g < w.heap.size) Z B2 s := hr.kept HKZ.out (fun g hg h => ⟨fun h => h, h, hg⟩)
  have HW : Hid (Calls Tryz.prog 55 #[.pointer (some ⟨B1, 0, none⟩), .int .i64 W] Z fun e w' => e = .returned (.int .i64 (tickS s W).2) /\ XOK (fun g => (F1 g /\ g < w.heap.size) \/ Z.heap.size <= g) w' B1 (tickS s W).1 /\ Kept (fun g => F1 g /\ g < w.heap.size) Z w') := x_tick_calls _ B1 (5 * m) s W Z hxZ hal.fits hal.shaped hal.small (by omega) hal.going
  have HR : Hid (∀ w1, RefOK (fun g => F2 g /\ g < w.heap.size) w1 B2 s -> Calls Tryz.prog 56 #[.pointer (some ⟨B2, 0, none⟩), .int .i64 W] w1 fun e w' => e = .returned (.int .i64 (tickS s W).2) /\ RefOK (fun g => (F2 g /\ g < w.heap.size) \/ w1.heap.size <= g) w' B2 (tickS s W).1 /\ Kept (fun g => F2 g /\ g < w.heap.size) w1 w') := fun w1 h => ref_tick_calls _ B2 (5 * m) s W w1 h hal.shaped hal.small
  have HRZ := hid_of hrZ
  have H12 := hid_of h12
  have H2 := hid_of h2
  have HAL := hid_of hal
  clear hx hr h12 h2 hal hxZ hrZ
  obtain ⟨er, her⟩ : ∃ er, (tickS s W).2 = er := ⟨_, rfl⟩
  obtain ⟨s', hs'⟩ : ∃ s', (tickS s W).1 = s' := ⟨_, rfl⟩
  rw [her, hs'] at HW
  rw [her, hs'] at HR
  have HS' := hid_of hs'
  clear her hs'
  go_enter Tryz.func22, Tryz.ntmps22
  go_wp2_with (first
   | (go_at_call 55; refine HW.out.mono ?_; rintro e w1 ⟨rfl, hx1, hk1⟩
      have t1 := (HBT.out.kept hk1 (by omega)).cell (o := 1) rfl
      have o2' := (HBO.out.kept hk1 (by omega)).cell (o := 2) rfl
      have HX1 := hid_of hx1
      have HK1 := hid_of hk1
      have HR1 : Hid (RefOK (fun g => F2 g /\ g < w.heap.size) w1 B2 s) := HRZ.out.kept hk1 (fun g hg h => ⟨fun h' => (H12.out g h'.1).2 h.1, h⟩)
      clear hx1 hk1)
   | (go_at_call 56; refine (HR.out w1 HR1.out).mono ?_; rintro e w2 ⟨rfl, hr2, hk2⟩
      have HR2 := hid_of hr2
      have HK2 := hid_of hk2
      clear hr2 hk2))
  go_ret
  have e1 := HK1.out.size
  have e2 := HK2.out.size
  refine ⟨by simp, .inr ⟨B1, B2, fun g => ((F1 g /\ g < w.heap.size) \/ Z.heap.size <= g) /\ g < w1.heap.size, fun g => (F2 g /\ g < w.heap.size) \/ w1.heap.size <= g, s', rfl, rfl, ?_, HR2.out, ?_, ?_, ?_⟩, ?_⟩
  ·exact HX1.out.kept HK2.out (fun g hg h => ⟨fun h' => (by
    rcases h with h | h
    ·exact (H12.out g h.1).2 h'.1
    ·omega), h, hg⟩)
  ·intro g h
   refine ⟨?_, fun h' => ?_⟩
   ·rcases h.1 with h' | h'
    ·exact .inl (H12.out g h'.1).1
    ·exact .inr (by omega)
   ·rcases h.1 with h1 | h1
    ·rcases h' with h' | h'
     ·exact (H12.out g h1.1).2 h'.1
     ·omega
    ·omega
  ·intro g h
   rcases h with h | h
   ·exact .inl (H2.out g h.1)
   ·exact .inr (by omega)
  ·rw [<- HS'.out]; exact HAL.out.tick W
  ·exact ((HKZ.out.mono (fun _ _ h => h.elim)).andThen HK1.out (fun g _ h => (H12.out g h.1).1)).andThen HK2.out (fun g _ h => H2.out g h.1)
theorem tasksS_few {s : RunS} (h : Fits s) (i : Int) : (tasksS s i).1.length <= 1000000 := by
 unfold tasksS
 split
 ·simp
 ·cases hx : s.W[i.toNat]? with
  | none => simp
  | some x =>
   have h1 := h.few x (List.mem_of_getElem? hx)
   have h2 := h.rmax
   simp
   omega
theorem twin_tasks {F : Nat -> Prop} {w Z : World} {xp wp : Option Addr} {m : Nat} (W : Int) (ht : TwinAt F w xp wp m) (hZ : Below w.heap.size w Z) :
  ∃ (er : Int) (l : List TaskS), l.length <= 1000000 /\
   Calls Tryz.prog 28 #[.pointer xp, .int .i64 W] Z (fun e w' => ∃ v, e = .returned (.tuple #[v, .int .i64 er]) /\ w'.ownsRow Z.heap.size 76 3 v l.length (l.flatMap taskEnc) /\ Below Z.heap.size Z w') /\
   ∀ w1, Below Z.heap.size Z w1 -> Calls Tryz.prog 38 #[.pointer wp, .int .i64 W] w1 (fun e w' => ∃ v, e = .returned (.tuple #[v, .int .i64 er]) /\ w'.ownsRow w1.heap.size 76 3 v l.length (l.flatMap taskEnc) /\ Below w1.heap.size w1 w') := by
 rcases ht with ⟨rfl, rfl⟩ | ⟨B1, B2, F1, F2, s, rfl, rfl, hx, hr, h12, h2, hal⟩
 ·exact ⟨1, [], by simp, (x_tasks_nil W Z).mono fun e w' h => ⟨_, h.1, World.ownsRow_nil _ _ _ _, h.2⟩, fun w1 _ => (ref_tasks_nil W w1).mono fun e w' h => ⟨_, h.1, World.ownsRow_nil _ _ _ _, h.2 ▸ Below.refl _ _⟩⟩
 ·exact ⟨(tasksS s W).2, (tasksS s W).1, tasksS_few hal.fits W, x_tasks_calls F1 B1 s W Z (hx.later hZ) hal.fits, fun w1 hb => ref_tasks_calls F2 B2 s W w1 (hr.later (hZ.trans (hb.mono hZ.size))) hal.fits⟩
set_option maxHeartbeats 4000000 in
set_option maxRecDepth 100000 in
theorem asks_calls (F Fb : Nat -> Prop) (xp wp : Option Addr) (m Bb N came : Nat) (hN : N <= 300000000000) (hcm : came <= 300000000000) (r W V i b c wk rm md pk pa : Int) (ka : Option Addr) (kn kc : Nat) (w : World) (ht : TwinAt F w xp wp m) (hB : BooksOK Fb w Bb N came) :
  Calls Tryz.prog 20 #[.agg #[.pointer xp, .pointer wp], .pointer (some ⟨Bb, 0, none⟩), .agg (opV 3 r W V i b c wk rm md (.slice ka kn kc) pk pa)] w fun e w' => e = .returned (.bool true) /\ (∃ N', N' <= N + 2 /\ BooksOK (fun g => Fb g \/ w.heap.size <= g) w' Bb N' (came + 1)) /\ Kept Fb w w' := by
 obtain ⟨Z, hZ⟩ : ∃ Z, (w.alloc (Obj.cells #[.pointer xp, .pointer wp] 61)).alloc (Obj.cells (opV 3 r W V i b c wk rm md (.slice ka kn kc) pk pa) 58) = Z := ⟨_, rfl⟩
 have hbZ : Below w.heap.size w Z := by rw [<- hZ]; exact ((Below.refl _ _).alloc (Nat.le_refl _) _).alloc (by simp) _
 have bT : BoxAt Z w.heap.size 61 #[.pointer xp, .pointer wp] := by rw [<- hZ]; exact (BoxAt.new w _ _).alloc _
 have bO : BoxAt Z (w.heap.size + 1) 58 (opV 3 r W V i b c wk rm md (.slice ka kn kc) pk pa) := by rw [<- hZ]; exact boxAt_at _ _ _ _ (by simp)
 have sZ : Z.heap.size = w.heap.size + 2 := by rw [<- hZ]; simp
 have HBT := hid_of bT
 have HBO := hid_of bO
 have HBZ := hid_of hbZ
 obtain ⟨er, l, hl, hx, hr⟩ := twin_tasks W ht hbZ
 have HX := hid_of hx
 have HR := hid_of hr
 have HBK : Hid (BooksOK (fun g => Fb g /\ g < w.heap.size) w Bb N came) := hB.mono (fun g hg h => ⟨h, hg⟩)
 have t0 := bT.cell (o := 0) rfl
 have o0 := bO.cell (o := 0) rfl
 have o2 := bO.cell (o := 2) rfl
 clear bT bO hbZ ht hx hr hB
 go_enter Tryz.func20, Tryz.ntmps20
 go_wp2_with (first
  | (go_at_call 28; refine HX.out.mono ?_; rintro e w1 ⟨v, rfl, hv, hb1⟩
     have t1 := (HBT.out.below hb1 (by omega)).cell (o := 1) rfl
     have o2' := (HBO.out.below hb1 (by omega)).cell (o := 2) rfl
     obtain ⟨va, vc, rfl⟩ := row_form hv
     have HV := hid_of hv
     have HB1 := hid_of hb1
     have e1 := hb1.size
     clear hv hb1)
  | (go_at_call 38; refine (HR.out w1 HB1.out).mono ?_; rintro e w2 ⟨v2, rfl, hv2, hb2⟩
     obtain ⟨va2, vc2, rfl⟩ := row_form hv2
     have HV' : Hid (w2.ownsRow Z.heap.size 76 3 (.slice va l.length vc) l.length (l.flatMap taskEnc)) := row_below HV.out hb2 (fun g e => (HV.out.lt g e).2)
     have HV2 := hid_of hv2
     have HB2 := hid_of hb2
     have e2 := hb2.size
     clear hv2 hb2)
  | (go_at_call 39; refine (likeT_calls _ _ l w2 (list_of_row (sz := 3) (enc := taskEnc) (fun _ => rfl) HV'.out rfl) (list_of_row (sz := 3) (enc := taskEnc) (fun _ => rfl) HV2.out rfl) (by omega)).mono ?_; rintro e w3 ⟨rfl, hb3⟩
     have e3 := hb3.size
     have HV3 : Hid (w3.ownsRow Z.heap.size 76 3 (.slice va l.length vc) l.length (l.flatMap taskEnc)) := row_below HV'.out hb3 (fun g e => (HV'.out.lt g e).2)
     have HB3 : Hid (Below w.heap.size w w3) := ((HBZ.out.trans (HB1.out.mono (by omega))).trans (HB2.out.mono (by omega))).trans (hb3.mono (by omega))
     have HBK3 : Hid (BooksOK (fun g => Fb g /\ g < w.heap.size) w3 Bb N came) := HBK.out.later HB3.out
     clear hb3)
  | (go_at_call 40; refine (takeT_calls _ Bb N came (.slice va l.length vc) l w3 HBK3.out (row_kept HV3.out (Kept.refl (fun _ => False) _) (fun _ _ h => h) (Nat.zero_le _)) (fun g e h => by have := (HV3.out.lt g e).1; omega) hl hN hcm).mono ?_; rintro e w4 ⟨rfl, N', hN', hbk4, hk4⟩
     have HBK4 := hid_of hbk4
     have HK4 := hid_of hk4
     clear hbk4 hk4))
 go_ret
 refine ⟨by simp, ⟨N', hN', HBK4.out.mono (fun g _ h => ?_)⟩, ?_⟩
 ·rcases h with h | h | h
  ·exact .inl h.1
  ·exact .inr (by omega)
  ·have := (HV3.out.lt g h).1
   exact .inr (by omega)
 ·refine (Kept.of_below HB3.out (fun k h1 h2 => absurd h1 (by omega))).andThen HK4.out (fun g hg h => ?_)
  rcases h with h | h
  ·exact h.1
  ·have := (HV3.out.lt g h).1
   omega
end Go.Proofs.YteahdfeialekbaaGreatDoor
