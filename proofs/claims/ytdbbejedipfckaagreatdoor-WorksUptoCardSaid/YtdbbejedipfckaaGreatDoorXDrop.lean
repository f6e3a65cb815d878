/-
  gleanref's Run.Steal and Run.Messages, the document's own answers.
-/
import Derived.Test.YtdbbejedipfckaaGreatDoorRefSend
import Derived.Test.YtdbbejedipfckaaGreatDoorXSteal
import Derived.Test.YtdbbejedipfckaaGreatDoorXPut
import Derived.Lib.SliceRun
import Derived.StillTailTactics
namespace Go.Proofs.YtdbbejedipfckaaGreatDoor
open Go Go.RowKit

/-- What every run keeps to: as many links as workers ask for; few messages on their way. -/
structure Shaped (s : RunS) : Prop where
  len : (s.W.length : Int) = s.workers
  two : 2 ≤ s.workers
  five : s.workers ≤ 5
  llen : s.links.length = s.W.length
  lrow : ∀ ls ∈ s.links, ls.length = s.W.length
  way : s.way.length ≤ 60
/-- Numbers that stay small. -/
structure Small (N : Nat) (s : RunS) : Prop where
  all : ∀ ls ∈ s.links, ∀ l ∈ ls, l.all.length ≤ N
  known : ∀ ls ∈ s.links, ∀ l ∈ ls, 0 ≤ l.known
  came : ∀ ls ∈ s.links, ∀ l ∈ ls, 0 ≤ l.came ∧ l.came ≤ (N : Int)
  kept : ∀ ls ∈ s.links, ∀ l ∈ ls, l.kept.length ≤ N
  sent : ∀ x ∈ s.W, 0 ≤ x.sent ∧ x.sent ≤ (N : Int)
  got : ∀ x ∈ s.W, 0 ≤ x.came ∧ x.came ≤ (N : Int)
/-- What a call that changes something gives. -/
def RefGives (F : Nat → Prop) (w : World) (B : Nat) (r : RunS × Int) (e : Ending) (w' : World) : Prop := e = .returned (.int .i64 r.2) ∧ RefOK (fun b => F b ∨ w.heap.size ≤ b) w' B r.1 ∧ Kept F w w'
theorem RefGives.same {F : Nat → Prop} {w : World} {B : Nat} {s : RunS} (h : RefOK F w B s) (e : Int) : RefGives F w B (s, e) (.returned (.int .i64 e)) w :=
  ⟨rfl, h.kept (Kept.refl (fun _ => False) w) (fun _ _ h => ⟨fun h => h, .inl h⟩), Kept.refl _ _⟩
theorem RefGives.of {F : Nat → Prop} {part part' : Nat → Nat} {w w' : World} {B : Nat} {s' : RunS} {kv wv lv yv vv av : Value} {ps : List Nat} {rows : List (Value × List Nat)} {r : RunS × Int} (hr : r.1 = s') (h : RefAtO part' w' B s' kv wv lv yv vv av ps rows) (hm : Moved part part' w w') (hF : ∀ b, part b ≠ 0 → F b) : RefGives F w B r (.returned (.int .i64 r.2)) w' := by
  obtain ⟨h1, h2⟩ := hm.ok h hF
  exact ⟨rfl, by rw [hr]; exact h1, h2⟩
theorem Shaped.worker {s : RunS} (h : Shaped s) {i : Int} (h0 : 0 ≤ i) (h1 : i < s.workers) : ∃ (k : Nat) (x : WorkerS), i = (k : Int) ∧ s.W[k]? = some x ∧ k < 5 := by
  obtain ⟨k, rfl⟩ := Int.eq_ofNat_of_zero_le h0
  have := h.len
  have := h.five
  exact ⟨k, _, rfl, List.getElem?_eq_getElem (by omega), by omega⟩
theorem Shaped.link {s : RunS} (h : Shaped s) {i j : Nat} (hi : i < s.W.length) (hj : j < s.W.length) : ∃ ls l, s.links[i]? = some ls ∧ ls[j]? = some l := by
  have h1 := h.llen
  have h2 : s.links[i]? = some s.links[i] := List.getElem?_eq_getElem (by omega)
  have h3 := h.lrow _ (List.mem_of_getElem? h2)
  exact ⟨_, _, h2, List.getElem?_eq_getElem (by omega)⟩
/-- send, of a run that is in shape. -/
theorem ref_send_s (m : MsgS) {N : Nat} {part : Nat → Nat} {w : World} {B : Nat} {s : RunS} {kv wv lv yv vv av : Value} {ps : List Nat} {rows : List (Value × List Nat)} (h : RefAtO part w B s kv wv lv yv vv av ps rows) (hs : Shaped s) (hN : Small N s) (hN' : N ≤ 100000000) (h0 : 0 ≤ m.src ∧ m.src < s.workers) (h1 : 0 ≤ m.dst ∧ m.dst < s.workers) :
    Calls Tryz.prog 87 #[.pointer (some ⟨B, 0, none⟩), .agg (msgCells m)] w fun e w' => e = .returned (.tuple #[]) ∧ ∃ part' yv', RefAtO part' w' B (sendS s m) kv wv lv yv' vv av ps rows ∧ Moved part part' w w' := by
  obtain ⟨i, x, hi, hx, -⟩ := hs.worker h0.1 h0.2
  obtain ⟨j, y, hj, hy, -⟩ := hs.worker h1.1 h1.2
  obtain ⟨ls, l, hls, hl⟩ := hs.link (List.getElem?_eq_some_iff.1 hx).1 (List.getElem?_eq_some_iff.1 hy).1
  have h5 := hs.five
  have hlen := hs.len
  have hxs := hN.sent x (List.mem_of_getElem? hx)
  exact ref_send_o m h (by have := hs.way; omega) i j hi hj ls l x hls hl hx (fun l hl => by have := hs.lrow l hl; omega) (by omega) (by have := hN.all ls (List.mem_of_getElem? hls) l (List.mem_of_getElem? hl); omega) (by omega)
theorem workerE_in {s : RunS} {i : Int} (h : workerE s i = 0) : 0 ≤ i ∧ i < s.workers := by
  unfold workerE at h
  split at h
  · omega
  · rename_i h'
    rw [h] at h'
    omega

/-- Steal's answer. -/
def stealS (s : RunS) (i v : Int) : RunS × Int :=
  if workerE s i ≠ 0 then (s, workerE s i) else if workerE s v ≠ 0 then (s, workerE s v) else if i = v then (s, 7) else
    match s.W[i.toNat]? with
    | none => (s, 9)
    | some x => if x.tasks ≠ [] ∨ x.asked = true then (s, 9) else (sendS { s with W := s.W.set i.toNat { x with asked := true } } { msg0 with src := i, dst := v, kind := 1 }, 0)
theorem ref_steal_nil (i v : Int) (w : World) : Calls Tryz.prog 49 #[.pointer none, .int .i64 i, .int .i64 v] w fun e w' => e = .returned (.int .i64 1) ∧ w' = w := by
  go_enter Tryz.func49, Tryz.ntmps49
  go_wp2_with (go_at_call 83; refine (ref_worker_nil _ _).mono ?_; rintro e w1 ⟨rfl, hq⟩; obtain rfl := hq.symm)
  go_ret
  exact ⟨rfl, rfl⟩
set_option maxHeartbeats 4000000 in
set_option maxRecDepth 100000 in
theorem ref_steal_calls (F : Nat → Prop) (B N : Nat) (s : RunS) (i v : Int) (w : World) (hr : RefOK F w B s) (hs : Shaped s) (hN : Small N s) (hN' : N ≤ 90000000) :
    Calls Tryz.prog 49 #[.pointer (some ⟨B, 0, none⟩), .int .i64 i, .int .i64 v] w (RefGives F w B (stealS s i v)) := by
  have HE : Hid (∀ t, Calls Tryz.prog 83 #[.pointer (some ⟨B, 0, none⟩), .int .i64 t] w fun e w' => e = .returned (.int .i64 (workerE s t)) ∧ w = w') := fun t => (ref_worker_calls F B s t w hr).mono fun e w' h => ⟨h.1, h.2.symm⟩
  have HR := hid_of hr
  obtain ⟨e1, he1⟩ : ∃ e1, workerE s i = e1 := ⟨_, rfl⟩
  obtain ⟨e2, he2⟩ : ∃ e2, workerE s v = e2 := ⟨_, rfl⟩
  by_cases h1 : e1 = 0
  case neg =>
    have HS : Hid (stealS s i v = (s, e1)) := by show _ = _; simp [stealS, he1, h1]
    have hb : (e1 == 0) = false := by rw [beq_eq_false_iff_ne]; exact h1
    clear h1 hr
    go_enter Tryz.func49, Tryz.ntmps49
    go_wp2_with (first
      | (go_at_call 83; refine (HE.out _).mono ?_; rintro e w1 ⟨rfl, rfl⟩))
    go_ret
    rw [HS.out]
    exact RefGives.same HR.out _
  by_cases h2 : e2 = 0
  case neg =>
    have HS : Hid (stealS s i v = (s, e2)) := by show _ = _; simp [stealS, he1, he2, h1, h2]
    have hb : (e2 == 0) = false := by rw [beq_eq_false_iff_ne]; exact h2
    subst h1
    clear h2 hr
    go_enter Tryz.func49, Tryz.ntmps49
    go_wp2_with (first
      | (go_at_call 83; refine (HE.out _).mono ?_; rintro e w1 ⟨rfl, rfl⟩))
    go_ret
    rw [HS.out]
    exact RefGives.same HR.out _
  subst h1 h2
  obtain ⟨hi0, hi1⟩ := workerE_in he1
  obtain ⟨hv0, hv1⟩ := workerE_in he2
  obtain ⟨k, x, rfl, hx, hk5⟩ := hs.worker hi0 hi1
  obtain ⟨part, hF, hat⟩ := hr
  obtain ⟨kv, wv, lv, yv, vv, av, ps, rows, h⟩ := hat.opened
  by_cases h3 : (k : Int) = v
  · have HS : Hid (stealS s k v = (s, 7)) := by show _ = _; simp [stealS, h3, he2]
    have hb : ((k : Int) == v) = true := by rw [beq_iff_eq]; exact h3
    clear h3 h hat
    go_enter Tryz.func49, Tryz.ntmps49
    go_wp2_with (first
      | (go_at_call 83; refine (HE.out _).mono ?_; rintro e w1 ⟨rfl, rfl⟩))
    go_ret
    rw [HS.out]
    exact RefGives.same HR.out _
  have hb : ((k : Int) == v) = false := by rw [beq_eq_false_iff_ne]; exact h3
  obtain ⟨p, gw, wc, hp, hwv, hgw, cw, hip, -⟩ := h.ptrW (i := k) (x := x) hx
  subst hwv
  obtain ⟨tv, hpb, hpp, htr⟩ := h.wat k p x hp hx
  obtain ⟨ta, tc, htf⟩ := row_form htr.1
  subst htf
  have b6 : w.cell? ⟨B, 6, none⟩ = some (.slice (some ⟨gw, 0, none⟩) ps.length wc) := h.box.cell (o := 6) rfl
  have p0 : w.cell? ⟨p, 0, none⟩ = some (.slice ta x.tasks.length tc) := hpb.cell (o := 0) rfl
  have p1 : w.cell? ⟨p, 1, none⟩ = some (.bool x.asked) := hpb.cell (o := 1) rfl
  have g1 := hpb.frozen 1
  have i0 : (0 : Int) ≤ (k : Int) := by omega
  have i3 : (k : Int) < (ps.length : Int) := by omega
  have HH := hid_of h
  have HPB := hid_of hpb
  clear h hpb hat
  by_cases h4 : x.tasks = []
  case neg =>
    have HS : Hid (stealS s k v = (s, 9)) := by show _ = _; simp [stealS, he1, he2, h3, hx, h4]
    obtain ⟨L, hL⟩ : ∃ L, x.tasks.length = L + 1 := ⟨x.tasks.length - 1, by have := List.length_pos_iff.2 h4; omega⟩
    rw [hL] at p0
    have hl : (0 : Int) < ((L + 1 : Nat) : Int) := by omega
    clear hL htr HPB
    clear h3 h4
    go_enter Tryz.func49, Tryz.ntmps49
    go_wp2_with (first
      | (go_at_call 83; refine (HE.out _).mono ?_; rintro e w1 ⟨rfl, rfl⟩))
    go_ret
    rw [HS.out]
    exact RefGives.same HR.out _
  have hl0 : x.tasks.length = 0 := by rw [h4]; rfl
  rw [hl0] at p0
  by_cases h5 : x.asked = true
  · have HS : Hid (stealS s k v = (s, 9)) := by show _ = _; simp [stealS, he1, he2, h3, hx, h5]
    rw [h5] at p1
    clear h3 h4 h5 hl0
    go_enter Tryz.func49, Tryz.ntmps49
    go_wp2_with (first
      | (go_at_call 83; refine (HE.out _).mono ?_; rintro e w1 ⟨rfl, rfl⟩))
    go_ret
    rw [HS.out]
    exact RefGives.same HR.out _
  have h5' : x.asked = false := by simpa using h5
  have HS : Hid (stealS s k v = (sendS { s with W := s.W.set k { x with asked := true } } { msg0 with src := k, dst := v, kind := 1 }, 0)) := by show _ = _; simp [stealS, he1, he2, h3, hx, h4, h5']
  rw [h5'] at p1
  obtain ⟨W5, hW5⟩ : ∃ W5, w.setCell ⟨p, 1, none⟩ (.bool true) = W5 := ⟨_, rfl⟩
  have k5 : Kept (· = p) w W5 := by rw [← hW5]; exact (Kept.refl _ _).setCell (.inl (by rfl)) _
  have bp5 : BoxAt W5 p 141 (workerCells (.slice ta x.tasks.length tc) { x with asked := true }) := by rw [← hW5]; exact HPB.out.setAt 1 _
  obtain ⟨h6, hm6⟩ := HH.out.reworker (x' := { x with asked := true }) (by omega) hp (k5.mono (fun g _ e => by rw [e]; exact hpp)) ⟨_, bp5, .inl ⟨hpp, HPB.out.lt⟩, row_kept htr.1 k5 (fun g e h => by subst h; exact row_ne htr.1 HPB.out (by decide) e) (Nat.le_refl _), fun g e => .inl ⟨htr.2 g e, (htr.1.lt g e).2⟩⟩
  have hs6 : Shaped { s with W := s.W.set k { x with asked := true } } := ⟨by simpa using hs.len, hs.two, hs.five, by simpa using hs.llen, fun ls hl => by simpa using hs.lrow ls hl, hs.way⟩
  have hN6 : Small N { s with W := s.W.set k { x with asked := true } } := ⟨hN.all, hN.known, hN.came, hN.kept, fun y hy => by
    rcases List.mem_or_eq_of_mem_set hy with h' | rfl
    · exact hN.sent y h'
    · exact hN.sent x (List.mem_of_getElem? hx), fun y hy => by
    rcases List.mem_or_eq_of_mem_set hy with h' | rfl
    · exact hN.got y h'
    · exact hN.got x (List.mem_of_getElem? hx)⟩
  have HP : Hid (Calls Tryz.prog 87 #[.pointer (some ⟨B, 0, none⟩), .agg (msgCells { msg0 with src := k, dst := v, kind := 1 })] W5 _) := ref_send_s { msg0 with src := k, dst := v, kind := 1 } h6 hs6 hN6 (by omega) ⟨i0, hi1⟩ ⟨hv0, hv1⟩
  have HM6 := hid_of hm6
  have HF := hid_of hF
  clear h3 h4 h5 h5' hl0 k5 bp5 h6 hm6 htr HH HPB hF
  go_enter Tryz.func49, Tryz.ntmps49
  go_wp2_with (first
    | (go_at_call 83; refine (HE.out _).mono ?_; rintro e w1 ⟨rfl, rfl⟩)
    | (go_at_call 87; refine HP.out.mono ?_; rintro e w6 ⟨rfl, part6, yv6, h6, hm6⟩))
  go_ret
  rw [HS.out]
  exact RefGives.of rfl h6 (HM6.out.trans hm6) HF.out
end Go.Proofs.YtdbbejedipfckaaGreatDoor
/-
  Run.Steal of the project, of a run that is nil and of one in memory: the document's answer as plain data.
-/
namespace Go.Proofs.YtdbbejedipfckaaGreatDoor
open Go Go.RowKit

/-- The worlds in which a step's variables are made. -/
abbrev held2 (W : World) (rp : Option Addr) (i : Int) : World := (W.alloc (Obj.cells #[.pointer rp] 37)).alloc (Obj.cells #[.int .i64 i] 3)
abbrev two2 (W : World) (i v : Int) : World := (W.alloc (Obj.cells #[.int .i64 i] 3)).alloc (Obj.cells #[.int .i64 v] 3)
abbrev held3 (W : World) (rp : Option Addr) (i v : Int) : World := ((W.alloc (Obj.cells #[.pointer rp] 37)).alloc (Obj.cells #[.int .i64 i] 3)).alloc (Obj.cells #[.int .i64 v] 3)
theorem held2_below (W : World) (rp : Option Addr) (i : Int) : Below W.heap.size W (held2 W rp i) := ((Below.refl _ _).alloc (Nat.le_refl _) _).alloc (by simp) _
theorem two2_below (W : World) (i v : Int) : Below W.heap.size W (two2 W i v) := ((Below.refl _ _).alloc (Nat.le_refl _) _).alloc (by simp) _
theorem held3_below (W : World) (rp : Option Addr) (i v : Int) : Below W.heap.size W (held3 W rp i v) := (((Below.refl _ _).alloc (Nat.le_refl _) _).alloc (by simp) _).alloc (by simp; omega) _
theorem held2_at (W : World) (B : Nat) (i : Int) : HeldAt (held2 W (some ⟨B, 0, none⟩) i) W.heap.size (W.heap.size + 1) B i := ⟨(BoxAt.new W _ _).alloc _, boxAt_at _ _ _ _ (by simp)⟩
theorem two2_at (W : World) (i v : Int) : TwoAt (two2 W i v) W.heap.size (W.heap.size + 1) i v := ⟨(BoxAt.new W _ _).alloc _, boxAt_at _ _ _ _ (by simp)⟩
theorem held3_at (W : World) (B : Nat) (i v : Int) : HeldAt (held3 W (some ⟨B, 0, none⟩) i v) W.heap.size (W.heap.size + 1) B i ∧ BoxAt (held3 W (some ⟨B, 0, none⟩) i v) (W.heap.size + 2) 3 #[.int .i64 v] := ⟨⟨((BoxAt.new W _ _).alloc _).alloc _, (boxAt_at _ _ _ _ (by simp)).alloc _⟩, boxAt_at _ _ _ _ (by simp)⟩
theorem areTwo_calls (i v : Int) (w : World) : Calls Tryz.prog 88 #[.int .i64 i, .int .i64 v] w fun e w' => e = .returned (.func (.func 129) #[] #[.pointer (some ⟨w.heap.size, 0, none⟩), .pointer (some ⟨w.heap.size + 1, 0, none⟩)]) ∧ w' = two2 w i v := by
  go_enter Tryz.func88, Tryz.ntmps88
  go_wp2_with fail
  go_ret
  exact ⟨rfl, rfl⟩
theorem isIdle_calls (rp : Option Addr) (i : Int) (w : World) : Calls Tryz.prog 89 #[.pointer rp, .int .i64 i] w fun e w' => e = .returned (.func (.func 130) #[] #[.pointer (some ⟨w.heap.size, 0, none⟩), .pointer (some ⟨w.heap.size + 1, 0, none⟩)]) ∧ w' = held2 w rp i := by
  go_enter Tryz.func89, Tryz.ntmps89
  go_wp2_with fail
  go_ret
  exact ⟨rfl, rfl⟩
theorem hasAnswer_calls (rp : Option Addr) (i : Int) (w : World) : Calls Tryz.prog 90 #[.pointer rp, .int .i64 i] w fun e w' => e = .returned (.func (.func 131) #[] #[.pointer (some ⟨w.heap.size, 0, none⟩), .pointer (some ⟨w.heap.size + 1, 0, none⟩)]) ∧ w' = held2 w rp i := by
  go_enter Tryz.func90, Tryz.ntmps90
  go_wp2_with fail
  go_ret
  exact ⟨rfl, rfl⟩
theorem sendRequest_calls (rp : Option Addr) (i v : Int) (w : World) : Calls Tryz.prog 91 #[.pointer rp, .int .i64 i, .int .i64 v] w fun e w' => e = .returned (.func (.func 132) #[] #[.pointer (some ⟨w.heap.size, 0, none⟩), .pointer (some ⟨w.heap.size + 1, 0, none⟩), .pointer (some ⟨w.heap.size + 2, 0, none⟩)]) ∧ w' = held3 w rp i v := by
  go_enter Tryz.func91, Tryz.ntmps91
  go_wp2_with fail
  go_ret
  exact ⟨rfl, rfl⟩
/-- The steps of Steal, made in W. -/
abbrev stealFs (W W1 W2 W3 W4 : World) : List StepV := [(115, #[], #[.pointer (some ⟨W.heap.size + 1, 0, none⟩), .pointer (some ⟨W.heap.size, 0, none⟩)]), (115, #[], #[.pointer (some ⟨W1.heap.size + 1, 0, none⟩), .pointer (some ⟨W1.heap.size, 0, none⟩)]), (129, #[], #[.pointer (some ⟨W2.heap.size, 0, none⟩), .pointer (some ⟨W2.heap.size + 1, 0, none⟩)]), (130, #[], #[.pointer (some ⟨W3.heap.size, 0, none⟩), .pointer (some ⟨W3.heap.size + 1, 0, none⟩)]), (131, #[], #[.pointer (some ⟨W4.heap.size, 0, none⟩), .pointer (some ⟨W4.heap.size + 1, 0, none⟩)])]
abbrev stealF (W5 : World) : StepV := (132, #[], #[.pointer (some ⟨W5.heap.size, 0, none⟩), .pointer (some ⟨W5.heap.size + 1, 0, none⟩), .pointer (some ⟨W5.heap.size + 2, 0, none⟩)])
set_option maxHeartbeats 2000000 in
set_option maxRecDepth 100000 in
theorem steal_opens (rp : Option Addr) (i v : Int) (w : World) (R : Ending → World → Prop)
    (h : ∀ W1 W2 W3 W4 W5 W6 W7, held2 w rp i = W1 → held2 W1 rp v = W2 → two2 W2 i v = W3 → held2 W3 rp i = W4 → held2 W4 rp i = W5 → held3 W5 rp i v = W6 → W6.alloc (Obj.cells ((stealFs w W1 W2 W3 W4 ++ [stealF W5]).map stepVal).toArray 129) = W7 → Calls Tryz.prog 75 #[.pointer rp, .slice (some ⟨W6.heap.size, 0, none⟩) 6 6] W7 fun e w' => (∃ r, e = .returned (.int .i64 r)) ∧ R e w') :
    Calls Tryz.prog 48 #[.pointer rp, .int .i64 i, .int .i64 v] w R := by
  obtain ⟨W1, h1⟩ : ∃ W1, held2 w rp i = W1 := ⟨_, rfl⟩
  obtain ⟨W2, h2⟩ : ∃ W2, held2 W1 rp v = W2 := ⟨_, rfl⟩
  obtain ⟨W3, h3⟩ : ∃ W3, two2 W2 i v = W3 := ⟨_, rfl⟩
  obtain ⟨W4, h4⟩ : ∃ W4, held2 W3 rp i = W4 := ⟨_, rfl⟩
  obtain ⟨W5, h5⟩ : ∃ W5, held2 W4 rp i = W5 := ⟨_, rfl⟩
  obtain ⟨W6, h6⟩ : ∃ W6, held3 W5 rp i v = W6 := ⟨_, rfl⟩
  obtain ⟨W7, h7⟩ : ∃ W7, W6.alloc (Obj.cells ((stealFs w W1 W2 W3 W4 ++ [stealF W5]).map stepVal).toArray 129) = W7 := ⟨_, rfl⟩
  have HC := hid_of (h W1 W2 W3 W4 W5 W6 W7 h1 h2 h3 h4 h5 h6 h7)
  have H1 : Hid ((w.alloc (Obj.cells #[.pointer rp] 37)).alloc (Obj.cells #[.int .i64 i] 3) = W1) := h1
  have H2 : Hid ((W1.alloc (Obj.cells #[.pointer rp] 37)).alloc (Obj.cells #[.int .i64 v] 3) = W2) := h2
  have H3 := hid_of h3
  have H4 := hid_of h4
  have H5 := hid_of h5
  have H6 := hid_of h6
  have H7 := hid_of h7
  clear h h1 h2 h3 h4 h5 h6 h7
  go_enter Tryz.func48, Tryz.ntmps48
  go_wp2_with (first
    | (go_at_call 72; refine (isWorker_calls rp _ _).mono ?_; rintro e a1 ⟨rfl, hq⟩; (first | (rw [H1.out] at hq; obtain rfl := hq.symm) | (rw [H2.out] at hq; obtain rfl := hq.symm)); clear hq)
    | (go_at_call 88; refine (areTwo_calls i v _).mono ?_; rintro e a1 ⟨rfl, hq⟩; obtain rfl : W3 = a1 := H3.out.symm.trans hq.symm; clear hq)
    | (go_at_call 89; refine (isIdle_calls rp i _).mono ?_; rintro e a1 ⟨rfl, hq⟩; obtain rfl : W4 = a1 := H4.out.symm.trans hq.symm; clear hq)
    | (go_at_call 90; refine (hasAnswer_calls rp i _).mono ?_; rintro e a1 ⟨rfl, hq⟩; obtain rfl : W5 = a1 := H5.out.symm.trans hq.symm; clear hq)
    | (go_at_call 91; refine (sendRequest_calls rp i v _).mono ?_; rintro e a1 ⟨rfl, hq⟩; obtain rfl : W6 = a1 := H6.out.symm.trans hq.symm; clear hq)
    | (go_at_call 75; refine Calls.at_world H7.out ?_; refine HC.out.mono ?_; rintro e a7 ⟨⟨r, rfl⟩, hr⟩))
  exact hr
theorem x_steal_nil (i v : Int) (w : World) : Calls Tryz.prog 48 #[.pointer none, .int .i64 i, .int .i64 v] w fun e w' => e = .returned (.int .i64 1) ∧ Below w.heap.size w w' := by
  refine steal_opens none i v w _ (fun W1 W2 W3 W4 W5 W6 W7 h1 h2 h3 h4 h5 h6 h7 => ?_)
  refine (change_nil W6.heap.size 6 W7).mono ?_
  rintro e w' ⟨rfl, hb⟩
  have g1 := held2_below w none i
  have g2 := held2_below W1 none v
  have g3 := two2_below W2 i v
  have g4 := held2_below W3 none i
  have g5 := held2_below W4 none i
  have g6 := held3_below W5 none i v
  rw [h1] at g1
  rw [h2] at g2
  rw [h3] at g3
  rw [h4] at g4
  rw [h5] at g5
  rw [h6] at g6
  have g7 : Below W6.heap.size W6 W7 := by rw [← h7]; exact (Below.refl _ _).alloc (Nat.le_refl _) _
  have z1 := g1.size
  have z2 := g2.size
  have z3 := g3.size
  have z4 := g4.size
  have z5 := g5.size
  have z6 := g6.size
  have z7 := g7.size
  exact ⟨⟨1, rfl⟩, rfl, ((((((g1.trans (g2.mono (by omega))).trans (g3.mono (by omega))).trans (g4.mono (by omega))).trans (g5.mono (by omega))).trans (g6.mono (by omega))).trans (g7.mono (by omega))).trans (hb.mono (by omega))⟩
theorem workerE_run {s : RunS} (hd : s.done = false) (ho : s.over = false) (t : Int) : workerE s t = if t < 0 ∨ s.workers ≤ t then 7 else 0 := by
  have : startE s = 0 := by simp [startE, hd, ho]
  unfold workerE
  rw [this]
  by_cases h : t < 0 ∨ s.workers ≤ t
  · rw [if_pos ⟨rfl, h⟩, if_pos h]
  · rw [if_neg (fun h' => h h'.2), if_neg h]
theorem workerE_over {s : RunS} (hd : s.done = false) (ho : s.over = true) (t : Int) : workerE s t = 6 := by
  simp [workerE, startE, hd, ho]
theorem if_zero {c : Prop} [Decidable c] {n : Int} (hn : n ≠ 0) (h : (if c then n else 0) = 0) : ¬ c := fun hc => hn (by rwa [if_pos hc] at h)
set_option maxHeartbeats 2000000 in
theorem x_steal_calls (F : Nat → Prop) (B N : Nat) (s : RunS) (i v : Int) (w : World) (hx : XOK F w B s) (hf : Fits s) (hs : Shaped s) (hN : Small N s) (hN' : N ≤ 90000000) (hkn : ∀ ls ∈ s.links, ∀ l ∈ ls, l.known.toNat ≤ l.all.length) (hd : s.done = false) :
    Calls Tryz.prog 48 #[.pointer (some ⟨B, 0, none⟩), .int .i64 i, .int .i64 v] w (XGives F w B (stealS s i v)) := by
  refine steal_opens (some ⟨B, 0, none⟩) i v w _ (fun W1 W2 W3 W4 W5 W6 W7 h1 h2 h3 h4 h5 h6 h7 => ?_)
  have g1 := held2_below w (some ⟨B, 0, none⟩) i
  have g2 := held2_below W1 (some ⟨B, 0, none⟩) v
  have g3 := two2_below W2 i v
  have g4 := held2_below W3 (some ⟨B, 0, none⟩) i
  have g5 := held2_below W4 (some ⟨B, 0, none⟩) i
  have g6 := held3_below W5 (some ⟨B, 0, none⟩) i v
  have a1 := held2_at w B i
  have a2 := held2_at W1 B v
  have a3 := two2_at W2 i v
  have a4 := held2_at W3 B i
  have a5 := held2_at W4 B i
  have a6 := held3_at W5 B i v
  rw [h1] at g1 a1
  rw [h2] at g2 a2
  rw [h3] at g3 a3
  rw [h4] at g4 a4
  rw [h5] at g5 a5
  rw [h6] at g6 a6
  have g7 : Below W6.heap.size W6 W7 := by rw [← h7]; exact (Below.refl _ _).alloc (Nat.le_refl _) _
  have bL : BoxAt W7 W6.heap.size 129 ((stealFs w W1 W2 W3 W4 ++ [stealF W5]).map stepVal).toArray := by rw [← h7]; exact BoxAt.new W6 _ _
  have z1 := g1.size
  have z2 := g2.size
  have z3 := g3.size
  have z4 := g4.size
  have z5 := g5.size
  have z6 := g6.size
  have z7 := g7.size
  have k6 : Below W5.heap.size W5 W7 := g6.trans (g7.mono z6)
  have k5 : Below W4.heap.size W4 W7 := g5.trans (k6.mono z5)
  have k4 : Below W3.heap.size W3 W7 := g4.trans (k5.mono z4)
  have k3 : Below W2.heap.size W2 W7 := g3.trans (k4.mono z3)
  have k2 : Below W1.heap.size W1 W7 := g2.trans (k3.mono z2)
  have hb : Below w.heap.size w W7 := g1.trans (k2.mono z1)
  have c1 := a1.below k2
  have c2 := a2.below k3
  have c3 := a3.below k4
  have c4 := a4.below k5
  have c5 := a5.below k6
  have c6 : HeldAt W7 W5.heap.size (W5.heap.size + 1) B i ∧ BoxAt W7 (W5.heap.size + 2) 3 #[.int .i64 v] := ⟨a6.1.below g7, a6.2.below g7 a6.2.lt⟩
  clear a1 a2 a3 a4 a5 a6 h1 h2 h3 h4 h5 h6 h7 g1 g2 g3 g4 g5 g6 k2 k3 k4 k5 k6
  have hlow := hx.low
  obtain ⟨x0, hx0⟩ : ∃ x0, s.W[i.toNat]?.getD worker0 = x0 := ⟨_, rfl⟩
  have hlen := hs.len
  have h5w := hs.five
  have valid : ∀ {t : Int}, ¬ (t < 0 ∨ s.workers ≤ t) → ∃ (k : Nat), t = (k : Int) ∧ k < s.W.length := fun {t} ht => ⟨t.toNat, by omega, by omega⟩
  have getx : ∀ {k : Nat}, i = (k : Int) → k < s.W.length → s.W[k]? = some x0 := fun {k} hi hk => by
    rw [← hx0, hi]
    simp [hk]
  refine (change_tests F B W6.heap.size s W7 (hx.later hb) (stealFs w W1 W2 W3 W4) [if i < 0 ∨ s.workers ≤ i then 7 else 0, if v < 0 ∨ s.workers ≤ v then 7 else 0, if i = v then 7 else 0, if x0.tasks.length = 0 then 0 else 9, if x0.asked = true then 9 else 0] (stealF W5) (stealS s i v) w hb hx (by simp) (by simp) 129 bL ?over ?enter ?test ?bad ?last).mono (fun e w' h => ⟨⟨_, h.1⟩, h⟩)
  case over =>
    intro ho
    simp [stealS, workerE_over hd ho]
  case enter =>
    intro f hf' args W
    simp at hf'
    rcases hf' with rfl | rfl | rfl | rfl | rfl | rfl
    · exact enters_of Tryz.func115 (by kernel_rfl) rfl args W
    · exact enters_of Tryz.func115 (by kernel_rfl) rfl args W
    · exact enters_of Tryz.func129 (by kernel_rfl) rfl args W
    · exact enters_of Tryz.func130 (by kernel_rfl) rfl args W
    · exact enters_of Tryz.func131 (by kernel_rfl) rfl args W
    · exact enters_of Tryz.func132 (by kernel_rfl) rfl args W
  case test =>
    intro ho j f e hj he hp W hW
    have hxW := (hx.later hb).later hW
    match j, hj, he with
    | 0, hj, he => cases hj; cases he; exact isWorker1_calls F B _ _ s i W hxW hf (c1.below hW)
    | 1, hj, he => cases hj; cases he; exact isWorker1_calls F B _ _ s v W hxW hf (c2.below hW)
    | 2, hj, he => cases hj; cases he; exact areTwo1_calls _ _ i v W (c3.below hW)
    | 3, hj, he =>
      cases hj; cases he
      obtain ⟨k, rfl, hk⟩ := valid (if_zero (by omega) (hp 0 _ (by omega) rfl))
      exact isIdle1_calls F B _ _ k s x0 W hxW (getx rfl hk) (c4.below hW)
    | 4, hj, he =>
      cases hj; cases he
      obtain ⟨k, rfl, hk⟩ := valid (if_zero (by omega) (hp 0 _ (by omega) rfl))
      exact hasAnswer1_calls F B _ _ k s x0 W hxW (getx rfl hk) (c5.below hW)
    | (n + 5), hj, he => simp at hj
  case bad =>
    intro ho j e he hne hp
    have wi := workerE_run hd ho i
    have wv := workerE_run hd ho v
    match j, he with
    | 0, he => cases he; simp only [stealS, wi, if_pos hne]
    | 1, he =>
      cases he
      have p0 := hp 0 _ (by omega) rfl
      simp only [stealS, wi, p0, wv, ne_eq, not_true_eq_false, if_false, if_pos hne]
    | 2, he =>
      cases he
      have p0 := hp 0 _ (by omega) rfl
      have p1 := hp 1 _ (by omega) rfl
      have hiv : i = v := by
        by_cases h : i = v
        · exact h
        · rw [if_neg h] at hne; exact absurd rfl hne
      simp [stealS, wv, p1, hiv]
    | 3, he =>
      cases he
      have p0 := hp 0 _ (by omega) rfl
      have p1 := hp 1 _ (by omega) rfl
      have p2 := if_zero (by omega) (hp 2 _ (by omega) rfl)
      obtain ⟨k, rfl, hk⟩ := valid (if_zero (by omega) p0)
      have hg := getx rfl hk
      have ht : x0.tasks ≠ [] := fun h => by rw [h] at hne; simp at hne
      have ht' : ¬ x0.tasks.length = 0 := fun h => ht (List.length_eq_zero_iff.1 h)
      simp only [stealS, wi, p0, wv, p1, ne_eq, not_true_eq_false, if_false, if_neg p2, Int.toNat_natCast, hg, if_neg ht']
      rw [if_pos (.inl ht)]
    | 4, he =>
      cases he
      have p0 := hp 0 _ (by omega) rfl
      have p1 := hp 1 _ (by omega) rfl
      have p2 := if_zero (by omega) (hp 2 _ (by omega) rfl)
      obtain ⟨k, rfl, hk⟩ := valid (if_zero (by omega) p0)
      have hg := getx rfl hk
      have ha : x0.asked = true := by
        by_cases h : x0.asked = true
        · exact h
        · rw [if_neg h] at hne; exact absurd rfl hne
      simp only [stealS, wi, p0, wv, p1, ne_eq, not_true_eq_false, if_false, if_neg p2, Int.toNat_natCast, hg, if_pos ha]
      rw [if_pos (.inr ha)]
    | (n + 5), he => simp at he
  case last =>
    intro ho hp W hW
    have wi := workerE_run hd ho i
    have wv := workerE_run hd ho v
    have p0 := hp 0 _ (by simp) rfl
    have p1 := hp 1 _ (by simp) rfl
    have p2 := if_zero (by omega) (hp 2 _ (by simp) rfl)
    have p3 := hp 3 _ (by simp) rfl
    have p4 := if_zero (by omega) (hp 4 _ (by simp) rfl)
    obtain ⟨k, rfl, hk⟩ := valid (if_zero (by omega) p0)
    obtain ⟨q, rfl, hq⟩ := valid (if_zero (by omega) p1)
    have hg := getx rfl hk
    obtain ⟨ls, l, hls, hl⟩ := hs.link hk hq
    have ht : x0.tasks = [] := by
      by_cases h : x0.tasks.length = 0
      · exact List.length_eq_zero_iff.1 h
      · rw [if_neg h] at p3; omega
    have hres : stealS s (k : Int) (q : Int) = (sendS { s with W := s.W.set k { x0 with asked := true } } { msg0 with src := (k : Int), dst := (q : Int), kind := 1 }, 0) := by
      simp only [stealS, wi, p0, wv, p1, ne_eq, not_true_eq_false, if_false, if_neg p2, Int.toNat_natCast, hg]
      rw [if_neg (by rintro (h | h); exact h ht; exact p4 h)]
    rw [hres]
    have hbW : Below w.heap.size w W := hb.trans (hW.mono hb.size)
    have c6W := c6.1.below hW
    exact sendRequest1_calls _ B _ _ _ k q s x0 ls l W (hlow.later hbW) hg hls hl (fun e => p2 (by rw [e])) (hkn ls (List.mem_of_getElem? hls) l (List.mem_of_getElem? hl)) (by have := hN.all ls (List.mem_of_getElem? hls) l (List.mem_of_getElem? hl); omega) (by have := hs.way; omega) c6W (c6.2.below hW c6.2.lt) ⟨fun h => by omega, fun h => by omega, fun h => by omega⟩
end Go.Proofs.YtdbbejedipfckaaGreatDoor
/-
  slices.Delete of one message in place, and post.List's Drop.
-/
namespace Go.Proofs.YtdbbejedipfckaaGreatDoor
open Go Go.RowKit

/-- Writing behind a row leaves it. -/
theorem row_behind {base t sz g n cap : Nat} {xs : List Value} : ∀ (vs : List Value) (o : Nat) (W : World), W.ownsRow base t sz (.slice (some ⟨g, 0, none⟩) n cap) n xs → n * sz ≤ o → (W.setCells g o vs).ownsRow base t sz (.slice (some ⟨g, 0, none⟩) n cap) n xs ∧ Kept (· = g) W (W.setCells g o vs)
  | [], o, W, h, _ => ⟨h, Kept.refl _ _⟩
  | v :: r, o, W, h, ho => by
    have h1 : (W.setCell ⟨g, o, none⟩ v).ownsRow base t sz (.slice (some ⟨g, 0, none⟩) n cap) n xs := by
      obtain ⟨hl, h2⟩ := h
      rcases h2 with ⟨h0, _⟩ | ⟨g', cap', cur, h0, hb, hcur, hnc, hcm, hcs, htk⟩
      · cases h0
      · cases h0
        have hbx : BoxAt W g t cur := hcur
        refine ⟨hl, .inr ⟨g, cap, cur.setIfInBounds o v, rfl, hb, hbx.setAt o v, hnc, hcm, by simpa using hcs, ?_⟩⟩
        rw [Array.toList_setIfInBounds, List.take_set_of_le ho]
        exact htk
    obtain ⟨h2, h3⟩ := row_behind r (o + 1) _ h1 (by omega)
    exact ⟨h2, ((Kept.refl (· = g) W).setCell (.inl (by rfl)) v).trans h3⟩
/-- A row's beginning. -/
theorem row_take {base t sz g n cap k : Nat} {W : World} {xs ys : List Value} (h : W.ownsRow base t sz (.slice (some ⟨g, 0, none⟩) n cap) n (xs ++ ys)) (hk : k ≤ n) (hx : xs.length = k * sz) : W.ownsRow base t sz (.slice (some ⟨g, 0, none⟩) k cap) k xs := by
  obtain ⟨hl, h2⟩ := h
  rcases h2 with ⟨h0, _⟩ | ⟨g', cap', cur, h0, hb, hcur, hnc, hcm, hcs, htk⟩
  · cases h0
  · cases h0
    refine ⟨hx, .inr ⟨g, cap, cur, rfl, hb, hcur, by omega, hcm, hcs, ?_⟩⟩
    have h1 := congrArg (List.take (k * sz)) htk
    rw [List.take_take, Nat.min_eq_left (Nat.mul_le_mul_right sz hk), ← hx, List.take_left' rfl, hx] at h1
    exact h1
theorem zeroMessage (w : World) : (zeroValue 139).run Tryz.prog w = .ok (.agg (msgCells msg0)) w := by
  have hi := infoMessage
  cases h : Tryz.prog.info? 139 with
  | none => rw [h] at hi; cases hi
  | some i =>
    rw [h] at hi
    simp at hi
    simp [zeroValue, typeInfo, h, hi.1, msg0]
theorem run_clear_one (w : World) (ty : TypeId) (g o c : Nat) (hc : ∀ j, j < 15 → (w.cell? ⟨g, o + j, none⟩).isSome = true) (hf : ∀ j, j < 15 → w.frozen? ⟨g, o + j, none⟩ = false) :
    (Builtin.clear_ #[125] ty #[.slice (some ⟨g, o, none⟩) 1 c]).run Tryz.prog w = .ok (.tuple #[]) (w.setCells g o (msgEnc msg0)) := by
  have hst := run_storeCells_cells (P := Tryz.prog) g o (msgEnc msg0) 0 w (by simpa [msgEnc] using hc) (by simpa [msgEnc] using hf) (by intro v hv; exact msgEnc_one msg0 v hv)
  simp only [Nat.add_zero] at hst
  have hz : (Builtin.zeroCells (Value.agg (msgCells msg0)).cells 1).toList = msgEnc msg0 := by kernel_rfl
  simp only [msg0] at hz hst ⊢
  simp [Builtin.clear_, run_underlying Tryz.underlying125, hz, hst]
set_option maxHeartbeats 4000000 in
set_option maxRecDepth 100000 in
theorem delete_calls (g cap k : Nat) (l : List MsgS) (m : MsgS) (w : World) (h : w.ownsRow 0 139 15 (.slice (some ⟨g, 0, none⟩) l.length cap) l.length (l.flatMap msgEnc)) (hk : l[k]? = some m) (hl : l.length ≤ 1000) :
    Calls Tryz.prog 154 #[.slice (some ⟨g, 0, none⟩) l.length cap, .int .i64 (k : Int), .int .i64 ((k : Int) + 1)] w fun e w' => ∃ v, e = .returned v ∧ (v = .slice (some ⟨g, 0, none⟩) (l.length - 1) cap ∧ w'.ownsRow 0 139 15 (.slice (some ⟨g, 0, none⟩) (l.length - 1) cap) (l.length - 1) ((l.take k ++ l.drop (k + 1)).flatMap msgEnc) ∧ Kept (· = g) w w') := by
  obtain ⟨iM, hiM, hzM0, hzM1, hzM2⟩ := info_parts infoMessage
  have hkl := (List.getElem?_eq_some_iff.1 hk).1
  obtain ⟨n, hn⟩ : ∃ n, l.length = n := ⟨_, rfl⟩
  have hcap : n ≤ cap := by
    rcases h.2 with ⟨h0, _⟩ | ⟨g', cap', cur, h0, _, _, h1, _⟩
    · cases h0
    · cases h0; omega
  have HT1 : Hid (((l.take k).flatMap msgEnc).length = k * 15) := by show _ = _; rw [flat_length (sz := 15) (enc := msgEnc) (fun _ => rfl), List.length_take, Nat.min_eq_left (by omega)]
  have HT2 : Hid (((l.drop (k + 1)).flatMap msgEnc).length = (n - (k + 1)) * 15) := by show _ = _; rw [flat_length (sz := 15) (enc := msgEnc) (fun _ => rfl), List.length_drop, hn]
  have HSP : Hid (l.flatMap msgEnc = (l.take k).flatMap msgEnc ++ (msgEnc m ++ (l.drop (k + 1)).flatMap msgEnc)) := by
    show _ = _
    rw [← List.flatMap_cons, ← List.flatMap_append]
    congr 1
    rw [List.getElem?_eq_some_iff] at hk
    obtain ⟨h1, rfl⟩ := hk
    rw [← List.drop_eq_getElem_cons h1, List.take_append_drop]
  have HROW := hid_of h
  have HCY : Hid (∀ j u, (l.flatMap msgEnc)[j]? = some u → w.cell? ⟨g, j, none⟩ = some u) := fun j u hj => by
    have := h.cells (g := g) rfl j u hj
    rwa [addr_add] at this
  have HPRE : Hid (∀ U, Kept (fun _ => False) w U → U.ownsRow 0 139 15 (.slice (some ⟨g, 0, none⟩) k cap) k ((l.take k).flatMap msgEnc)) := fun U hU => by
    refine row_kept ?_ hU (fun _ _ h => h) (Nat.le_refl _)
    have h' := h
    rw [HSP.out] at h'
    exact row_take h' (by omega) HT1.out
  have HN2 : Hid (∀ j u, ((l.drop (k + 1)).flatMap msgEnc)[j]? = some u → w.cell? ⟨g, (k + 1) * 15 + j, none⟩ = some u) := fun j u hj => by
    refine HCY.out ((k + 1) * 15 + j) u ?_
    rw [HSP.out, List.getElem?_append_right (by rw [HT1.out]; omega), HT1.out, List.getElem?_append_right (by show 15 ≤ _; omega)]
    have e : (k + 1) * 15 + j - k * 15 - (msgEnc m).length = j := by show _ - 15 = _; omega
    rw [e]
    exact hj
  have HLN : Hid (l.length = n) := hn
  rw [hn] at h hkl hl ⊢
  have HRN : Hid (w.ownsRow 0 139 15 (.slice (some ⟨g, 0, none⟩) n cap) n (l.flatMap msgEnc)) := h
  have hgl := (h.lt g rfl).2
  have i0 : (0 : Int) ≤ (k : Int) := by omega
  have i1 : (0 : Int) ≤ (k : Int) + 1 := by omega
  have i2 : (k : Int) ≤ (k : Int) + 1 := by omega
  have i3 : (k : Int) + 1 ≤ (n : Int) := by omega
  have i4 : (n : Int) ≤ (cap : Int) := by omega
  have i5 : (k : Int) ≤ (cap : Int) := by omega
  have i6 : ((k : Int) == (k : Int) + 1) = false := by rw [beq_eq_false_iff_ne]; omega
  obtain ⟨p, rfl⟩ : ∃ p, n = p + 1 := ⟨n - 1, by omega⟩
  rw [show p + 1 - 1 = p from rfl]
  clear h hk hn HROW
  go_enter Tryz.func154, Tryz.ntmps154
  go_upto_region 5 with fail
  have hpk : p + 1 - (k + 1) = p - k := by omega
  rw [hpk] at HT2
  have HFIT : Hid (k + (p - k) ≤ cap) := by show _ ≤ _; omega
  have HPK : Hid (k + (p - k) = p) := by show _ = _; omega
  have hkw : Kept (fun _ => False) w w.drew := (Kept.refl _ _).drew
  have HPR := hid_of (HPRE.out w.drew hkw)
  have q1 : p + 1 - (k + 1) = p - k := hpk
  have q2 : (k : Int) ≤ (p : Int) := by omega
  have q3 : k ≤ p := by omega
  have q4 : (p : Int) + 1 ≤ (cap : Int) := by omega
  have q5 : (k : Int) + 1 ≤ (p : Int) + 1 := by omega
  go_cut [0] from 8 to 26 (fun v2 w2 => v2 = .slice (some ⟨g, 0, none⟩) (k + (p - k)) cap ∧ w2.ownsRow 0 139 15 (.slice (some ⟨g, 0, none⟩) (k + (p - k)) cap) (k + (p - k)) ((l.take k).flatMap msgEnc ++ (l.drop (k + 1)).flatMap msgEnc) ∧ Kept (· = g) w w2)
  case first =>
    by_cases hyc : cap = k + 1
    · have HD : Hid ((l.drop (k + 1)).flatMap msgEnc = []) := by show _ = _; rw [List.drop_eq_nil_of_le (by have := HLN.out; omega)]; rfl
      obtain rfl : p = k := by omega
      subst hyc
      have q6 : p + 1 - (p + 1) = 0 := by omega
      have q7 : p - p = 0 := by omega
      go_still_tail 6, (by kernel_rfl)
      go_wp2_with (at_builtin; refine wpList_append_fits w.drew rfl _ _ _ rfl 0 139 iM 15 Tryz.underlying125 hiM hzM1 g p (p + 1) ((l.take p).flatMap msgEnc) rfl HPR.out ⟨g, 0, none⟩ 0 0 [] rfl rfl (fun j u hj => by simp at hj) (fun u hu => by simp at hu) (by omega) ?_; intro w2 hown2 hgrow2)
      go_meet
      case rel =>
        refine ⟨by first | rfl | (rw [HPK.out]), ?_, (Kept.refl _ _).drew.trans (Kept.grown hgrow2 (fun r e => by cases e; rfl))⟩
        rw [HD.out]
        simpa using hown2
    · have hy1 : ¬ cap - (k + 1) = 0 := by omega
      have hy2 : k + 1 < cap := by omega
      have hy3 : (k : Int) + 1 < (cap : Int) := by omega
      have HN3 : Hid (∀ j u, ((l.drop (k + 1)).flatMap msgEnc)[j]? = some u → w.drew.cell? ((⟨g, (k + 1) * 15, none⟩ : Addr).add j) = some u) := fun j u hj => by
        have e : (⟨g, (k + 1) * 15, none⟩ : Addr).add j = ⟨g, (k + 1) * 15 + j, none⟩ := by unfold Addr.add; split <;> simp_all
        rw [e]
        exact HN2.out j u hj
      go_still_tail 6, (by kernel_rfl)
      go_wp2_with (at_builtin; refine wpList_append_fits w.drew rfl _ _ _ rfl 0 139 iM 15 Tryz.underlying125 hiM hzM1 g k cap ((l.take k).flatMap msgEnc) rfl HPR.out ⟨g, (k + 1) * 15, none⟩ (p - k) (cap - (k + 1)) ((l.drop (k + 1)).flatMap msgEnc) rfl HT2.out HN3.out (flat_one msgEnc_one _) HFIT.out ?_; intro w2 hown2 hgrow2)
      go_meet
      case rel => exact ⟨by first | rfl | (rw [HPK.out]), hown2, (Kept.refl _ _).drew.trans (Kept.grown hgrow2 (fun r e => by cases e; rfl))⟩
  case rest =>
    obtain ⟨rfl, hown2, hk2⟩ := hcut
    rename World => w2
    rw [HPK.out] at hown2 ⊢
    have hcells : ∀ j, j < 15 → (w2.cell? ⟨g, p * 15 + j, none⟩).isSome = true ∧ w2.frozen? ⟨g, p * 15 + j, none⟩ = false := fun j hj => by
      obtain ⟨hx, h2⟩ := hown2
      rcases h2 with ⟨h0, _⟩ | ⟨g', cap', cur, h0, hb, hcur, hnc, hcm, hcs, htk⟩
      · cases h0
      · cases h0
        have hbx : BoxAt w2 g 139 cur := hcur
        obtain ⟨v, hv⟩ := get_some (cs := cur) (i := p * 15 + j) (by rw [hcs]; omega)
        exact ⟨by rw [hbx.cell hv]; rfl, hbx.frozen _⟩
    obtain ⟨w3, hw3⟩ : ∃ w3, w2.setCells g (p * 15) (msgEnc msg0) = w3 := ⟨_, rfl⟩
    have hclr : ∀ ty, (Builtin.clear_ #[125] ty #[.slice (some ⟨g, p * 15, none⟩) 1 (cap - p)]).run Tryz.prog w2 = .ok (.tuple #[]) w3 := fun ty => by
      rw [← hw3]
      exact run_clear_one w2 ty g (p * 15) (cap - p) (fun j hj => (hcells j hj).1) (fun j hj => (hcells j hj).2)
    obtain ⟨hown3, hk3⟩ := row_behind (msgEnc msg0) (p * 15) w2 hown2 (Nat.le_refl _)
    rw [hw3] at hown3 hk3
    have HO3 := hid_of hown3
    have HK3 : Hid (Kept (· = g) w w3) := hk2.trans hk3
    have e0 : (0 : Int) ≤ (p : Int) := by omega
    have e1 : (p : Int) ≤ ((p + 1 : Nat) : Int) := by omega
    have e2 : ((p + 1 : Nat) : Int) ≤ (cap : Int) := by omega
    have e3 : ¬ cap - p = 0 := by omega
    have e4 : p < cap := by omega
    have e5 : (p : Int) < (cap : Int) := by omega
    have e6 : p + 1 - p = 1 := by omega
    clear hown2 hk2 hown3 hk3 hcells hw3 HCY HN2 HPRE HPR HRN HT1 HT2 HSP HFIT
    go_wp2_with fail
    go_ret
    refine ⟨_, rfl, rfl, ?_, HK3.out⟩
    rw [List.flatMap_append]
    exact HO3.out
end Go.Proofs.YtdbbejedipfckaaGreatDoor
