/-
  gleanref's Run.Steal and Run.Messages, the document's own answers.
-/
import Derived.Test.YteahdfeialekbaaGreatDoorRefSend
namespace Go.Proofs.YteahdfeialekbaaGreatDoor
open Go Go.RowKit
structure Shaped (s : RunS) : Prop where
 len : (s.W.length : Int) = s.workers
 two : 2 <= s.workers
 five : s.workers <= 5
 llen : s.links.length = s.W.length
 lrow : ∀ ls ∈ s.links, ls.length = s.W.length
 way : s.way.length <= 60
structure Small (N : Nat) (s : RunS) : Prop where
 all : ∀ ls ∈ s.links, ∀ l ∈ ls, l.all.length <= N
 known : ∀ ls ∈ s.links, ∀ l ∈ ls, 0 <= l.known
 came : ∀ ls ∈ s.links, ∀ l ∈ ls, 0 <= l.came /\ l.came <= (N : Int)
 kept : ∀ ls ∈ s.links, ∀ l ∈ ls, l.kept.length <= N
 sent : ∀ x ∈ s.W, 0 <= x.sent /\ x.sent <= (N : Int)
 got : ∀ x ∈ s.W, 0 <= x.came /\ x.came <= (N : Int)
def RefGives (F : Nat -> Prop) (w : World) (B : Nat) (r : RunS × Int) (e : Ending) (w' : World) : Prop := e = .returned (.int .i64 r.2) /\ RefOK (fun b => F b \/ w.heap.size <= b) w' B r.1 /\ Kept F w w'
theorem RefGives.same {F : Nat -> Prop} {w : World} {B : Nat} {s : RunS} (h : RefOK F w B s) (e : Int) : RefGives F w B (s, e) (.returned (.int .i64 e)) w :=
 ⟨rfl, h.kept (Kept.refl (fun _ => False) w) (fun _ _ h => ⟨fun h => h, .inl h⟩), Kept.refl _ _⟩
theorem RefGives.of {F : Nat -> Prop} {part part' : Nat -> Nat} {w w' : World} {B : Nat} {s' : RunS} {kv wv lv yv vv av : Value} {ps : List Nat} {rows : List (Value × List Nat)} {r : RunS × Int} (hr : r.1 = s') (h : RefAtO part' w' B s' kv wv lv yv vv av ps rows) (hm : Moved part part' w w') (hF : ∀ b, part b ≠ 0 -> F b) : RefGives F w B r (.returned (.int .i64 r.2)) w' := by
 obtain ⟨h1, h2⟩ := hm.ok h hF
 exact ⟨rfl, by rw [hr]; exact h1, h2⟩
theorem Shaped.worker {s : RunS} (h : Shaped s) {i : Int} (h0 : 0 <= i) (h1 : i < s.workers) : ∃ (k : Nat) (x : WorkerS), i = (k : Int) /\ s.W[k]? = some x /\ k < 5 := by
 obtain ⟨k, rfl⟩ := Int.eq_ofNat_of_zero_le h0
 have := h.len
 have := h.five
 exact ⟨k, _, rfl, List.getElem?_eq_getElem (by omega), by omega⟩
theorem Shaped.link {s : RunS} (h : Shaped s) {i j : Nat} (hi : i < s.W.length) (hj : j < s.W.length) : ∃ ls l, s.links[i]? = some ls /\ ls[j]? = some l := by
 have h1 := h.llen
 have h2 : s.links[i]? = some s.links[i] := List.getElem?_eq_getElem (by omega)
 have h3 := h.lrow _ (List.mem_of_getElem? h2)
 exact ⟨_, _, h2, List.getElem?_eq_getElem (by omega)⟩
theorem ref_send_s (m : MsgS) {N : Nat} {part : Nat -> Nat} {w : World} {B : Nat} {s : RunS} {kv wv lv yv vv av : Value} {ps : List Nat} {rows : List (Value × List Nat)} (h : RefAtO part w B s kv wv lv yv vv av ps rows) (hs : Shaped s) (hN : Small N s) (hN' : N <= 100000000) (h0 : 0 <= m.src /\ m.src < s.workers) (h1 : 0 <= m.dst /\ m.dst < s.workers) :
  Calls Tryz.prog 88 #[.pointer (some ⟨B, 0, none⟩), .agg (msgCells m)] w fun e w' => e = .returned (.tuple #[]) /\ ∃ part' yv', RefAtO part' w' B (sendS s m) kv wv lv yv' vv av ps rows /\ Moved part part' w w' := by
 obtain ⟨i, x, hi, hx, -⟩ := hs.worker h0.1 h0.2
 obtain ⟨j, y, hj, hy, -⟩ := hs.worker h1.1 h1.2
 obtain ⟨ls, l, hls, hl⟩ := hs.link (List.getElem?_eq_some_iff.1 hx).1 (List.getElem?_eq_some_iff.1 hy).1
 have h5 := hs.five
 have hlen := hs.len
 have hxs := hN.sent x (List.mem_of_getElem? hx)
 exact ref_send_o m h (by have := hs.way; omega) i j hi hj ls l x hls hl hx (fun l hl => by have := hs.lrow l hl; omega) (by omega) (by have := hN.all ls (List.mem_of_getElem? hls) l (List.mem_of_getElem? hl); omega) (by omega)
theorem workerE_in {s : RunS} {i : Int} (h : workerE s i = 0) : 0 <= i /\ i < s.workers := by
 unfold workerE at h
 split at h
 ·omega
 ·rename_i h'
  rw [h] at h'
  omega
def stealS (s : RunS) (i v : Int) : RunS × Int :=
 if workerE s i ≠ 0 then (s, workerE s i) else if workerE s v ≠ 0 then (s, workerE s v) else if i = v then (s, 7) else
  match s.W[i.toNat]? with
  | none => (s, 9)
  | some x => if x.tasks ≠ [] \/ x.asked = true then (s, 9) else (sendS { s with W := s.W.set i.toNat { x with asked := true } } { msg0 with src := i, dst := v, kind := 1 }, 0)
theorem ref_steal_nil (i v : Int) (w : World) : Calls Tryz.prog 50 #[.pointer none, .int .i64 i, .int .i64 v] w fun e w' => e = .returned (.int .i64 1) /\ w' = w := by
 go_enter Tryz.func50, Tryz.ntmps50
 go_wp2_with (go_at_call 84; refine (ref_worker_nil _ _).mono ?_; rintro e w1 ⟨rfl, hq⟩; obtain rfl := hq.symm)
 go_ret
 exact ⟨rfl, rfl⟩
set_option maxHeartbeats 4000000 in
set_option maxRecDepth 100000 in
theorem ref_steal_calls (F : Nat -> Prop) (B N : Nat) (s : RunS) (i v : Int) (w : World) (hr : RefOK F w B s) (hs : Shaped s) (hN : Small N s) (hN' : N <= 90000000) :
  Calls Tryz.prog 50 #[.pointer (some ⟨B, 0, none⟩), .int .i64 i, .int .i64 v] w (RefGives F w B (stealS s i v)) := by
 have HE : Hid (∀ t, Calls Tryz.prog 84 #[.pointer (some ⟨B, 0, none⟩), .int .i64 t] w fun e w' => e = .returned (.int .i64 (workerE s t)) /\ w = w') := fun t => (ref_worker_calls F B s t w hr).mono fun e w' h => ⟨h.1, h.2.symm⟩
 have HR := hid_of hr
 obtain ⟨e1, he1⟩ : ∃ e1, workerE s i = e1 := ⟨_, rfl⟩
 obtain ⟨e2, he2⟩ : ∃ e2, workerE s v = e2 := ⟨_, rfl⟩
 by_cases h1 : e1 = 0
 case neg =>
  have HS : Hid (stealS s i v = (s, e1)) := by show _ = _; simp [stealS, he1, h1]
  have hb : (e1 == 0) = false := by rw [beq_eq_false_iff_ne]; exact h1
  clear h1 hr
  go_enter Tryz.func50, Tryz.ntmps50
  go_wp2_with (first
   | (go_at_call 84; refine (HE.out _).mono ?_; rintro e w1 ⟨rfl, rfl⟩))
  go_ret
  rw [HS.out]
  exact RefGives.same HR.out _
 by_cases h2 : e2 = 0
 case neg =>
  have HS : Hid (stealS s i v = (s, e2)) := by show _ = _; simp [stealS, he1, he2, h1, h2]
  have hb : (e2 == 0) = false := by rw [beq_eq_false_iff_ne]; exact h2
  subst h1
  clear h2 hr
  go_enter Tryz.func50, Tryz.ntmps50
  go_wp2_with (first
   | (go_at_call 84; refine (HE.out _).mono ?_; rintro e w1 ⟨rfl, rfl⟩))
  go_ret
  rw [HS.out]
  exact RefGives.same HR.out _
 subst h1 h2
 obtain ⟨hi0, hi1⟩ := workerE_in he1
 obtain ⟨hv0, hv1⟩ := workerE_in he2
 obtain ⟨k, x, rfl, hx, hk5⟩ := hs.worker hi0 hi1
 obtain ⟨part, hF, hat⟩ := hr
 obtain ⟨kv, wv, lv, yv, vv, av, ps, rows, h⟩ := hat.opened
 by_cases h3 : (k : Int) = v
 ·have HS : Hid (stealS s k v = (s, 7)) := by show _ = _; simp [stealS, h3, he2]
  have hb : ((k : Int) == v) = true := by rw [beq_iff_eq]; exact h3
  clear h3 h hat
  go_enter Tryz.func50, Tryz.ntmps50
  go_wp2_with (first
   | (go_at_call 84; refine (HE.out _).mono ?_; rintro e w1 ⟨rfl, rfl⟩))
  go_ret
  rw [HS.out]
  exact RefGives.same HR.out _
 have hb : ((k : Int) == v) = false := by rw [beq_eq_false_iff_ne]; exact h3
 obtain ⟨p, gw, wc, hp, hwv, hgw, cw, hip, -⟩ := h.ptrW (i := k) (x := x) hx
 subst hwv
 obtain ⟨tv, hpb, hpp, htr⟩ := h.wat k p x hp hx
 obtain ⟨ta, tc, htf⟩ := row_form htr.1
 subst htf
 have b6 : w.cell? ⟨B, 6, none⟩ = some (.slice (some ⟨gw, 0, none⟩) ps.length wc) := h.box.cell (o := 6) rfl
 have p0 : w.cell? ⟨p, 0, none⟩ = some (.slice ta x.tasks.length tc) := hpb.cell (o := 0) rfl
 have p1 : w.cell? ⟨p, 1, none⟩ = some (.bool x.asked) := hpb.cell (o := 1) rfl
 have g1 := hpb.frozen 1
 have i0 : (0 : Int) <= (k : Int) := by omega
 have i3 : (k : Int) < (ps.length : Int) := by omega
 have HH := hid_of h
 have HPB := hid_of hpb
 clear h hpb hat
 by_cases h4 : x.tasks = []
 case neg =>
  have HS : Hid (stealS s k v = (s, 9)) := by show _ = _; simp [stealS, he1, he2, h3, hx, h4]
  obtain ⟨L, hL⟩ : ∃ L, x.tasks.length = L + 1 := ⟨x.tasks.length - 1, by have := List.length_pos_iff.2 h4; omega⟩
  rw [hL] at p0
  have hl : (0 : Int) < ((L + 1 : Nat) : Int) := by omega
  clear hL htr HPB
  clear h3 h4
  go_enter Tryz.func50, Tryz.ntmps50
  go_wp2_with (first
   | (go_at_call 84; refine (HE.out _).mono ?_; rintro e w1 ⟨rfl, rfl⟩))
  go_ret
  rw [HS.out]
  exact RefGives.same HR.out _
 have hl0 : x.tasks.length = 0 := by rw [h4]; rfl
 rw [hl0] at p0
 by_cases h5 : x.asked = true
 ·have HS : Hid (stealS s k v = (s, 9)) := by show _ = _; simp [stealS, he1, he2, h3, hx, h5]
  rw [h5] at p1
  clear h3 h4 h5 hl0
  go_enter Tryz.func50, Tryz.ntmps50
  go_wp2_with (first
   | (go_at_call 84; refine (HE.out _).mono ?_; rintro e w1 ⟨rfl, rfl⟩))
  go_ret
  rw [HS.out]
  exact RefGives.same HR.out _
 have h5' : x.asked = false := by simpa using h5
 have HS : Hid (stealS s k v = (sendS { s with W := s.W.set k { x with asked := true } } { msg0 with src := k, dst := v, kind := 1 }, 0)) := by show _ = _; simp [stealS, he1, he2, h3, hx, h4, h5']
 rw [h5'] at p1
 obtain ⟨W5, hW5⟩ : ∃ W5, w.setCell ⟨p, 1, none⟩ (.bool true) = W5 := ⟨_, rfl⟩
 have k5 : Kept (· = p) w W5 := by rw [<- hW5]; exact (Kept.refl _ _).setCell (.inl (by rfl)) _
 have bp5 : BoxAt W5 p 142 (workerCells (.slice ta x.tasks.length tc) { x with asked := true }) := by rw [<- hW5]; exact HPB.out.setAt 1 _
 obtain ⟨h6, hm6⟩ := HH.out.reworker (x' := { x with asked := true }) (by omega) hp (k5.mono (fun g _ e => by rw [e]; exact hpp)) ⟨_, bp5, .inl ⟨hpp, HPB.out.lt⟩, row_kept htr.1 k5 (fun g e h => by subst h; exact row_ne htr.1 HPB.out (by decide) e) (Nat.le_refl _), fun g e => .inl ⟨htr.2 g e, (htr.1.lt g e).2⟩⟩
 have hs6 : Shaped { s with W := s.W.set k { x with asked := true } } := ⟨by simpa using hs.len, hs.two, hs.five, by simpa using hs.llen, fun ls hl => by simpa using hs.lrow ls hl, hs.way⟩
 have hN6 : Small N { s with W := s.W.set k { x with asked := true } } := ⟨hN.all, hN.known, hN.came, hN.kept, fun y hy => by
  rcases List.mem_or_eq_of_mem_set hy with h' | rfl
  ·exact hN.sent y h'
  ·exact hN.sent x (List.mem_of_getElem? hx), fun y hy => by
  rcases List.mem_or_eq_of_mem_set hy with h' | rfl
  ·exact hN.got y h'
  ·exact hN.got x (List.mem_of_getElem? hx)⟩
 have HP : Hid (Calls Tryz.prog 88 #[.pointer (some ⟨B, 0, none⟩), .agg (msgCells { msg0 with src := k, dst := v, kind := 1 })] W5 _) := ref_send_s { msg0 with src := k, dst := v, kind := 1 } h6 hs6 hN6 (by omega) ⟨i0, hi1⟩ ⟨hv0, hv1⟩
 have HM6 := hid_of hm6
 have HF := hid_of hF
 clear h3 h4 h5 h5' hl0 k5 bp5 h6 hm6 htr HH HPB hF
 go_enter Tryz.func50, Tryz.ntmps50
 go_wp2_with (first
  | (go_at_call 84; refine (HE.out _).mono ?_; rintro e w1 ⟨rfl, rfl⟩)
  | (go_at_call 88; refine HP.out.mono ?_; rintro e w6 ⟨rfl, part6, yv6, h6, hm6⟩))
 go_ret
 rw [HS.out]
 exact RefGives.of rfl h6 (HM6.out.trans hm6) HF.out
end Go.Proofs.YteahdfeialekbaaGreatDoor
