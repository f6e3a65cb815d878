/-
  Run.Messages of the project, of a run that is nil and of one in memory: the messages on their way in a new list.
-/
import Derived.Test.YteahdfeialekbaaGreatDoorXMsgs
import Derived.Test.YteahdfeialekbaaGreatDoorTamed
import Derived.Test.YteahdfeialekbaaGreatDoorRefCame5
import Derived.Test.YteahdfeialekbaaGreatDoorTakeM
namespace Go.Proofs.YteahdfeialekbaaGreatDoor
open Go Go.RowKit
theorem eqlMsgs (a : Option Addr) (l c : Nat) (w : World) : (binOp .eql 125 (.slice a l c) (.slice none 0 0)).run Tryz.prog w = .ok (.bool a.isNone) w := run_eql_slice_nil w _ _ a l c Tryz.underlying125
attribute [local go_sem] eqlMsgs
set_option maxHeartbeats 1000000 in
set_option maxRecDepth 100000 in
theorem cloneM_calls (v : Value) (l : List MsgS) (w : World) (hv : ListAt 15 msgEnc w v l) (hl : l.length <= 1000000) :
  Calls Tryz.prog 133 #[v] w fun e w' => ∃ v', e = .returned v' /\ w'.ownsRow w.heap.size 140 15 v' l.length (l.flatMap msgEnc) /\ Below w.heap.size w w' := by
 obtain ⟨i1, hi1, hy0, hy1, hy2⟩ := info_parts infoMessage
 obtain ⟨a, cap, rfl, hc⟩ := hv
 cases a with
 | none =>
  have hl0 : l = [] := by
   cases l with
   | nil => rfl
   | cons x r => obtain ⟨g, o, e, _⟩ := hc 0 x rfl; cases e
  subst hl0
  go_enter Tryz.func133, Tryz.ntmps133
  go_wp2_with fail
  go_ret
  exact ⟨_, rfl, World.ownsRow_nil _ _ _ _, Below.refl _ _⟩
 | some ad =>
  have HN : Hid (∀ j u, (l.flatMap msgEnc)[j]? = some u -> ∃ b, (some ad : Option Addr) = some b /\ (w.alloc (Obj.cells #[] 140)).cell? (b.add j) = some u) := fun j u hj => by
   have hlt : j < l.length * 15 := by rw [<- flat_length (sz := 15) (enc := msgEnc) (fun _ => rfl) l]; exact (List.getElem?_eq_some_iff.1 hj).1
   obtain ⟨x, hx⟩ : ∃ x, l[j / 15]? = some x := ⟨_, List.getElem?_eq_getElem (by omega)⟩
   obtain ⟨u', hu'⟩ : ∃ u', (msgEnc x)[j % 15]? = some u' := ⟨_, List.getElem?_eq_getElem (by show j % 15 < 15; omega)⟩
   have h1 := flat_get (sz := 15) (enc := msgEnc) (fun _ => rfl) l _ x _ u' hx hu'
   rw [show j / 15 * 15 + j % 15 = j from by omega, hj] at h1
   obtain ⟨g, o, e, hg, hcc⟩ := hc _ x hx
   cases e
   have h2 := hcc _ u' hu'
   rw [Nat.add_assoc, show j / 15 * 15 + j % 15 = j from by omega] at h2
   cases h1
   have hadd : (⟨g, o, none⟩ : Addr).add j = ⟨g, o + j, none⟩ := by unfold Addr.add; split <;> simp_all
   exact ⟨_, rfl, by rw [hadd]; exact cell_alloc _ h2⟩
  have HE : Hid ((w.alloc (Obj.cells #[] 140)).ownsRow w.heap.size 140 15 (.slice (some ⟨w.heap.size, 0, none⟩) 0 0) 0 []) := World.ownsRow_lit (base := w.heap.size) (e := 140) (size := 15) w #[] 0 (Nat.le_refl _) (by unfold maxLen; omega) rfl
  have HL : Hid ((l.flatMap msgEnc).length = l.length * 15) := flat_length (sz := 15) (enc := msgEnc) (fun _ => rfl) l
  clear hc
  go_enter Tryz.func133, Tryz.ntmps133
  go_wp2_with (at_builtin; refine wpList_append_any rfl _ _ _ rfl w.heap.size 140 i1 _ 15 128 Tryz.underlying125 hi1 hy0 hy1 hy2 rfl (by omega) (.slice (some ⟨w.heap.size, 0, none⟩) 0 0) 0 [] rfl HE.out (some ad) l.length cap (l.flatMap msgEnc) rfl HL.out HN.out (flat_one msgEnc_one _) (by unfold maxLen; omega) (by omega) (by simp) ?_; intro v3 w3 hown3 hgrow3; rw [Nat.zero_add, List.nil_append] at hown3; obtain ⟨a3, c3, rfl⟩ := row_form hown3)
  go_ret
  refine ⟨_, rfl, hown3, ?_⟩
  exact ((Below.refl _ _).alloc (Nat.le_refl _) _).trans ((Kept.grown hgrow3 (X := fun b => w.heap.size <= b) (fun r e => by simp [Value.ownBlock] at e; omega)).below (by simp) (fun _ h => h))
theorem copyM_calls (v : Value) (l : List MsgS) (w : World) (hv : ListAt 15 msgEnc w v l) (hl : l.length <= 1000000) :
  Calls Tryz.prog 81 #[v] w fun e w' => ∃ v', e = .returned v' /\ w'.ownsRow w.heap.size 140 15 v' l.length (l.flatMap msgEnc) /\ Below w.heap.size w w' := by
 have HC := hid_of (cloneM_calls v l w hv hl)
 clear hv
 go_enter Tryz.func81, Tryz.ntmps81
 go_wp2_with (go_at_call 133; refine HC.out.mono ?_; rintro e w1 ⟨v1, rfl, hrow1, hb1⟩)
 go_ret
 exact ⟨_, rfl, hrow1, hb1⟩
theorem x_messages_nil (w : World) : Calls Tryz.prog 41 #[.pointer none] w fun e w' => e = .returned (.tuple #[.slice none 0 0, .int .i64 1]) /\ w = w' := by
 go_enter Tryz.func41, Tryz.ntmps41
 go_wp2_with (go_at_call 72; refine (ask_nil _ _).mono ?_; rintro e w4 ⟨rfl, hw4⟩; obtain rfl := hw4.symm)
 go_ret2
 exact ⟨rfl, rfl⟩
theorem inTurn_none (w : World) : Calls Tryz.prog 119 #[.slice none 0 0] w fun e w' => e = .returned (.int .i64 0) /\ w = w' := by
 go_enter Tryz.func119, Tryz.ntmps119
 go_wp2_with fail
 go_loopw [8] (fun iv wr => iv = .int .i64 0 /\ w = wr) (fun iv _ => 0)
 case atStart => exact ⟨rfl, rfl⟩
 case round =>
  obtain ⟨rfl, rfl⟩ := hrel
  go_wp2_with fail
  go_ret
  exact ⟨rfl, rfl⟩
theorem x_messages_calls (F : Nat -> Prop) (B : Nat) (s : RunS) (w : World) (hx : XOK F w B s) (hs : Shaped s) :
  Calls Tryz.prog 41 #[.pointer (some ⟨B, 0, none⟩)] w fun e w' => ∃ v, e = .returned (.tuple #[v, .int .i64 0]) /\ w'.ownsRow w.heap.size 140 15 v s.way.length (s.way.flatMap msgEnc) /\ Below w.heap.size w w' := by
 obtain ⟨part, -, kv, wv, yv, M, xs, h⟩ := hx
 have hL : ListAt 15 msgEnc w yv s.way := list_of_row (sz := 15) (enc := msgEnc) (fun _ => rfl) h.yrow.1 rfl
 have HC := hid_of (copyM_calls yv s.way w hL (by have := hs.way; omega))
 have HA : Hid (Calls Tryz.prog 72 #[.pointer (some ⟨B, 0, none⟩), .slice none 0 0] w fun e w' => ∃ r, e = .returned (.int .i64 r) /\ (r = 0 /\ w = w')) := ask_calls B (.slice none 0 0) w (fun r w' => r = 0 /\ w = w') ((inTurn_none w).mono fun e w' h => ⟨0, h.1, rfl, h.2⟩)
 obtain ⟨ya, yc, hyf⟩ := row_form h.yrow.1
 subst hyf
 have b4 : w.cell? ⟨B, 4, none⟩ = some (.slice ya s.way.length yc) := h.box.cell (o := 4) rfl
 clear h hL
 go_enter Tryz.func41, Tryz.ntmps41
 go_wp2_with (first
  | (go_at_call 72; refine HA.out.mono ?_; rintro e w4 ⟨r, rfl, rfl, rfl⟩)
  | (go_at_call 81; refine HC.out.mono ?_; rintro e w5 ⟨v5, rfl, hr5, hb5⟩))
 go_ret2
 exact ⟨_, rfl, hr5, hb5⟩
end Go.Proofs.YteahdfeialekbaaGreatDoor
namespace Go.Proofs.YteahdfeialekbaaGreatDoor
open Go Go.RowKit
theorem twin_messages {F : Nat -> Prop} {w Z : World} {xp wp : Option Addr} {m : Nat} (ht : TwinAt F w xp wp m) (hZ : Below w.heap.size w Z) :
  ∃ (er : Int) (l : List MsgS), l.length <= 1000000 /\
   Calls Tryz.prog 41 #[.pointer xp] Z (fun e w' => ∃ v, e = .returned (.tuple #[v, .int .i64 er]) /\ w'.ownsRow Z.heap.size 140 15 v l.length (l.flatMap msgEnc) /\ Below Z.heap.size Z w') /\
   ∀ w1, Below Z.heap.size Z w1 -> Calls Tryz.prog 42 #[.pointer wp] w1 (fun e w' => ∃ v, e = .returned (.tuple #[v, .int .i64 er]) /\ w'.ownsRow w1.heap.size 140 15 v l.length (l.flatMap msgEnc) /\ Below w1.heap.size w1 w') := by
 rcases ht with ⟨rfl, rfl⟩ | ⟨B1, B2, F1, F2, s, rfl, rfl, hx, hr, h12, h2, hal⟩
 ·exact ⟨1, [], by simp, (x_messages_nil Z).mono fun e w' h => ⟨_, h.1, World.ownsRow_nil _ _ _ _, h.2 ▸ Below.refl _ _⟩, fun w1 _ => (ref_messages_nil w1).mono fun e w' h => ⟨_, h.1, World.ownsRow_nil _ _ _ _, h.2 ▸ Below.refl _ _⟩⟩
 ·exact ⟨0, s.way, by have := hal.shaped.way; omega, x_messages_calls F1 B1 s Z (hx.later hZ) hal.shaped, fun w1 hb => ref_messages_calls F2 B2 s w1 (hr.later (hZ.trans (hb.mono hZ.size))) hal.shaped⟩
set_option maxHeartbeats 4000000 in
set_option maxRecDepth 100000 in
theorem asksM_calls (F Fb : Nat -> Prop) (xp wp : Option Addr) (m Bb N came : Nat) (hN : N <= 300000000000) (hcm : came <= 300000000000) (r W V i b c wk rm md pk pa : Int) (ka : Option Addr) (kn kc : Nat) (w : World) (ht : TwinAt F w xp wp m) (hB : BooksOK Fb w Bb N came) :
  Calls Tryz.prog 20 #[.agg #[.pointer xp, .pointer wp], .pointer (some ⟨Bb, 0, none⟩), .agg (opV 5 r W V i b c wk rm md (.slice ka kn kc) pk pa)] w fun e w' => e = .returned (.bool true) /\ (∃ N', N' <= N + 2 /\ BooksOK (fun g => Fb g \/ w.heap.size <= g) w' Bb N' (came + 1)) /\ Kept Fb w w' := by
 obtain ⟨Z, hZ⟩ : ∃ Z, (w.alloc (Obj.cells #[.pointer xp, .pointer wp] 61)).alloc (Obj.cells (opV 5 r W V i b c wk rm md (.slice ka kn kc) pk pa) 58) = Z := ⟨_, rfl⟩
 have hbZ : Below w.heap.size w Z := by rw [<- hZ]; exact ((Below.refl _ _).alloc (Nat.le_refl _) _).alloc (by simp) _
 have bT : BoxAt Z w.heap.size 61 #[.pointer xp, .pointer wp] := by rw [<- hZ]; exact (BoxAt.new w _ _).alloc _
 have bO : BoxAt Z (w.heap.size + 1) 58 (opV 5 r W V i b c wk rm md (.slice ka kn kc) pk pa) := by rw [<- hZ]; exact boxAt_at _ _ _ _ (by simp)
 have sZ : Z.heap.size = w.heap.size + 2 := by rw [<- hZ]; simp
 have HBT := hid_of bT
 have HBO := hid_of bO
 have HBZ := hid_of hbZ
 obtain ⟨er, l, hl, hx, hr⟩ := twin_messages ht hbZ
 have HX := hid_of hx
 have HR := hid_of hr
 have HBK : Hid (BooksOK (fun g => Fb g /\ g < w.heap.size) w Bb N came) := hB.mono (fun g hg h => ⟨h, hg⟩)
 have t0 := bT.cell (o := 0) rfl
 have o0 := bO.cell (o := 0) rfl
 clear bT bO hbZ ht hx hr hB
 go_enter Tryz.func20, Tryz.ntmps20
 go_wp2_with (first
  | (go_at_call 41; refine HX.out.mono ?_; rintro e w1 ⟨v, rfl, hv, hb1⟩
     have t1 := (HBT.out.below hb1 (by omega)).cell (o := 1) rfl
     obtain ⟨va, vc, rfl⟩ := row_form hv
     have HV := hid_of hv
     have HB1 := hid_of hb1
     have e1 := hb1.size
     clear hv hb1)
  | (go_at_call 42; refine (HR.out w1 HB1.out).mono ?_; rintro e w2 ⟨v2, rfl, hv2, hb2⟩
     obtain ⟨va2, vc2, rfl⟩ := row_form hv2
     have HV' : Hid (w2.ownsRow Z.heap.size 140 15 (.slice va l.length vc) l.length (l.flatMap msgEnc)) := row_below HV.out hb2 (fun g e => (HV.out.lt g e).2)
     have HV2 := hid_of hv2
     have HB2 := hid_of hb2
     have e2 := hb2.size
     clear hv2 hb2)
  | (go_at_call 43; refine (likeM_calls _ _ l w2 (list_of_row (sz := 15) (enc := msgEnc) (fun _ => rfl) HV'.out rfl) (list_of_row (sz := 15) (enc := msgEnc) (fun _ => rfl) HV2.out rfl) (by omega)).mono ?_; rintro e w3 ⟨rfl, hb3⟩
     have e3 := hb3.size
     have HV3 : Hid (w3.ownsRow Z.heap.size 140 15 (.slice va l.length vc) l.length (l.flatMap msgEnc)) := row_below HV'.out hb3 (fun g e => (HV'.out.lt g e).2)
     have HB3 : Hid (Below w.heap.size w w3) := ((HBZ.out.trans (HB1.out.mono (by omega))).trans (HB2.out.mono (by omega))).trans (hb3.mono (by omega))
     have HBK3 : Hid (BooksOK (fun g => Fb g /\ g < w.heap.size) w3 Bb N came) := HBK.out.later HB3.out
     clear hb3)
  | (go_at_call 44; refine (takeM_calls _ Bb N came (.slice va l.length vc) l w3 HBK3.out (row_kept HV3.out (Kept.refl (fun _ => False) _) (fun _ _ h => h) (Nat.zero_le _)) (fun g e h => by have := (HV3.out.lt g e).1; omega) hl hN hcm).mono ?_; rintro e w4 ⟨rfl, N', hN', hbk4, hk4⟩
     have HBK4 := hid_of hbk4
     have HK4 := hid_of hk4
     clear hbk4 hk4))
 go_ret
 refine ⟨by simp, ⟨N', hN', HBK4.out.mono (fun g _ h => ?_)⟩, ?_⟩
 ·rcases h with h | h | h
  ·exact .inl h.1
  ·exact .inr (by omega)
  ·have := (HV3.out.lt g h).1
   exact .inr (by omega)
 ·refine (Kept.of_below HB3.out (fun k h1 h2 => absurd h1 (by omega))).andThen HK4.out (fun g hg h => ?_)
  rcases h with h | h
  ·exact h.1
  ·have := (HV3.out.lt g h).1
   omega
end Go.Proofs.YteahdfeialekbaaGreatDoor
