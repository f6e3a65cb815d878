/-
  slices.Collect gathers what an iterator that turns nothing tells into a new list.
-/
import Derived.Test.YtdbbejedipfckaaGreatDoorGather
import Derived.OwnWalkIn
namespace Go.Proofs.YtdbbejedipfckaaGreatDoor
open Go Go.RowKit Go.Shelf

attribute [local go_sem] Oper.semAt_some

set_option maxHeartbeats 2000000 in
set_option maxRecDepth 100000 in
theorem appendSeq_calls (gf : Nat) (lb : Array Value) (L : List TaskS) (w : World) (hlen : L.length ≤ 1000) (eg : ∀ args w, (callFunc gf args).run Tryz.prog w = .ok (.enter gf args) w)
    (hseq : ∀ (n : Nat) (X : Nat → Prop) (W : World), Below w.heap.size w W → (∀ k, X k → w.heap.size ≤ k) → SeqY Fence.wide n Tryz.prog gf lb (fun c : TaskS => #[taskV c]) X L W) :
    Calls Tryz.prog 116 #[.slice none 0 0, .func (.func gf) #[] lb] w fun e w' => ∃ v, e = .returned v ∧ w'.ownsRow w.heap.size 76 3 v L.length (L.flatMap taskEnc) ∧ Below w.heap.size w w' := by
  obtain ⟨iT, hiT, hzT0, hzT1, hzT2⟩ := info_parts infoTask
  refine (callsIn_wide (n := 5)).1 ?_
  refine callsIn_of_wp_marks Tryz.func116 rfl trivial ?_ rfl
  simp only [Tryz.ntmps116, List.size_toArray, List.length_cons, List.length_nil, Nat.reduceAdd, Nat.reduceSub, Array.replicate_succ, Array.replicate_zero, List.push_toArray, List.append_toArray, List.nil_append, List.cons_append]
  gi_wp2_with fail
  obtain ⟨Z, hZ⟩ : ∃ Z, w.alloc (Obj.cells #[.slice none 0 0] 52) = Z := ⟨_, rfl⟩
  have hbZ : Below w.heap.size w Z := by rw [← hZ]; exact (Below.refl _ _).alloc (Nat.le_refl _) _
  have sZ : Z.heap.size = w.heap.size + 1 := by rw [← hZ]; simp
  have bS : BoxAt Z w.heap.size 52 #[.slice none 0 0] := by rw [← hZ]; exact BoxAt.new w _ _
  rw [hZ]
  clear hZ
  have hseqZ : ∀ W, Below Z.heap.size Z W → W.heap.size = Z.heap.size + 2 → SeqY Fence.wide (5 - 1) Tryz.prog gf lb (fun c : TaskS => #[taskV c]) (fun k => (k = w.heap.size ∨ Z.heap.size + 2 ≤ k) ∨ k = Z.heap.size + 1) L W := fun W hW _ => hseq _ _ W (hbZ.trans (hW.mono (by omega))) (fun k h => by omega)
  refine range_lawY (F := Fence.wide) (n := 5) (w := Z) rfl (fun h => (by cases h)) (gf := gf) (lb := lb) (by rfl) trivial eg
    (fun k => k = w.heap.size ∨ Z.heap.size + 2 ≤ k) (fun k h => by omega) hseqZ (fun _ => by rfl)
    (fun pre U => ∃ v, BoxAt U w.heap.size 52 #[v] ∧ U.ownsRow (Z.heap.size + 2) 76 3 v pre.length (pre.flatMap taskEnc) ∧ Kept (· = w.heap.size) Z U)
    (fun s A B h hk => by
      obtain ⟨v, h1, h2, h4⟩ := h
      exact ⟨v, h1.kept hk (by omega), row_kept h2 hk (fun g e h => by have := (h2.lt g e).1; omega) (Nat.le_refl _), h4.andThen hk (fun b hb h => by omega)⟩)
    ⟨_, bS, World.ownsRow_nil _ _ _ _, Kept.refl _ _⟩
    (fun pre c a' U => ∃ Bx, Z.heap.size + 2 ≤ Bx ∧ BoxAt U Bx 76 #[.string c.id, .int .i64 c.kind, .int .i64 c.arg] ∧ a' = Act.mk #[Value.slice none 0 0, Value.func (Fn.func gf) #[] lb, Value.pointer (some { block := w.heap.size, off := 0 }), undef, Value.slice none 0 0, Value.pointer (some { block := Bx, off := 0 }), Value.func (Fn.func gf) #[] lb, Value.agg #[.string c.id, .int .i64 c.kind, .int .i64 c.arg], undef, undef, undef, undef, undef] [])
    (fun pre c a' A A' h hk => by
      obtain ⟨Bx, e1, e2, e3⟩ := h
      exact ⟨Bx, e1, e2.kept hk (by omega), e3⟩) ?assign ?body ?done
  case assign =>
    rintro l' pre' ⟨id', k', x'⟩ U K hpre ⟨v, h1, h2, h4⟩ hszU hK
    simp only [taskV]
    gi_wp2
    exact hK _ _ (Kept.alloc _ _ _) ⟨v, h1.alloc _, row_kept h2 (Kept.alloc (fun _ => False) _ _) (fun _ _ h => h) (Nat.le_refl _), h4.trans (Kept.alloc _ _ _)⟩ ⟨U.heap.size, hszU, BoxAt.new U _ _, rfl⟩
  case body =>
    rintro l' pre' ⟨id', k', x'⟩ a' U hpre ⟨v, h1, h2, h4⟩ ⟨Bx, hBx, bX, rfl⟩ hszU
    simp only at bX
    have hpl : pre'.length + 1 ≤ 1000 := by
      have := hpre.length_le
      rw [List.length_append] at this
      simp at this
      omega
    obtain ⟨va, vc, hvf⟩ := row_form h2
    subst hvf
    have s0 := h1.cell (o := 0) rfl
    have x0 := bX.cell (o := 0) rfl
    have x1 := bX.cell (o := 1) rfl
    have x2 := bX.cell (o := 2) rfl
    have H1 := hid_of h1
    have H2 := hid_of h2
    have H4 := hid_of h4
    have HNB : Hid ((Value.slice va pre'.length vc).ownBlock ≠ some w.heap.size) := row_ne h2 h1 (by decide)
    have hul := h1.lt
    clear h1 h2 h4 bX hpre
    gi_wp2_with (gi_at_builtin; refine wpListIn_append_own _ rfl _ _ _ rfl (Z.heap.size + 2) 76 iT _ 3 32 Tryz.underlying52 hiT hzT0 hzT1 hzT2 rfl (by omega) (Value.slice va pre'.length vc) pre'.length (pre'.flatMap taskEnc) rfl (H2.out.alloc _) ⟨U.heap.size, 0, none⟩ 1 1 [.string id', .int .i64 k', .int .i64 x'] rfl rfl (World.news_of_block (cs := #[.string id', .int .i64 k', .int .i64 x']) (t := 76) (fr := (0, 0)) (heap_alloc_new U _)) (by simp [Value.oneCell']) (by unfold maxLen; omega) (by omega) (by simp; omega) ?_; intro v1 w1 hown1 hgrow1 _; obtain ⟨a1, c1, rfl⟩ := row_form hown1; have hbs1 : BoxAt w1 w.heap.size 52 #[.slice va pre'.length vc] := (hgrow1.block _ (by simp; omega) (fun e => HNB.out e.symm)).trans (H1.out.alloc _); have q1 := hbs1.cell (o := 0) rfl; have f1 := hbs1.frozen 0)
    have kU1 : Kept (fun b => (Value.slice va pre'.length vc).ownBlock = some b) U w1 := (Kept.alloc _ _ _).trans (Kept.grown hgrow1 (fun r e => e))
    have k12 : Kept (· = w.heap.size) w1 (w1.setCell ⟨w.heap.size, 0, none⟩ (.slice a1 (pre'.length + 1) c1)) := (Kept.refl _ _).setCell (.inl (by rfl)) _
    have hkX : Kept (fun k => k = w.heap.size ∨ Z.heap.size + 2 ≤ k) U (w1.setCell ⟨w.heap.size, 0, none⟩ (.slice a1 (pre'.length + 1) c1)) := (kU1.mono (fun b _ h => .inr (H2.out.lt b h).1)).trans (k12.mono (fun b _ h => .inl h))
    refine ⟨hkX, _, hbs1.setAt 0 _, ?_, H4.out.andThen hkX (fun b hb h => by omega)⟩
    rw [List.length_append, List.flatMap_append]
    exact row_kept hown1 k12 (fun g e h => by subst h; exact row_ne hown1 hbs1 (by decide) e) (Nat.le_refl _)
  case done =>
    rintro Dd U hD ⟨v, h1, h2, h4⟩ hK
    obtain ⟨va, vc, hvf⟩ := row_form h2
    subst hvf
    have s0 := h1.cell (o := 0) rfl
    gi_wp2
    refine ⟨by simp, .inl ⟨_, _, rfl, run_takeDeferred hK, ?_⟩⟩
    have hkF : Kept (· = Dd) U (U.putObj Dd (.deferred none)) := Kept.putObj _ _ _ rfl
    have hDu := (Array.getElem?_eq_some_iff.1 hK).1
    have hbU : Below w.heap.size w U := hbZ.trans (h4.below (by omega) (fun b h => by omega))
    refine ⟨.slice va L.length vc, by simp [results, Tryz.f116, go_sem], _, rfl, row_kept h2 hkF (fun g e h => ?_) (by omega), hbU.trans (hkF.below hbU.size (fun k e => by omega))⟩
    obtain ⟨cs, hcs⟩ := row_obj h2 e
    rw [h, hK] at hcs
    cases hcs
set_option maxHeartbeats 1000000 in
theorem collect_calls (gf : Nat) (lb : Array Value) (L : List TaskS) (w : World) (hlen : L.length ≤ 1000) (eg : ∀ args w, (callFunc gf args).run Tryz.prog w = .ok (.enter gf args) w)
    (hseq : ∀ (n : Nat) (X : Nat → Prop) (W : World), Below w.heap.size w W → (∀ k, X k → w.heap.size ≤ k) → SeqY Fence.wide n Tryz.prog gf lb (fun c : TaskS => #[taskV c]) X L W) :
    Calls Tryz.prog 73 #[.func (.func gf) #[] lb] w fun e w' => ∃ v, e = .returned v ∧ w'.ownsRow w.heap.size 76 3 v L.length (L.flatMap taskEnc) ∧ Below w.heap.size w w' := by
  have HC := hid_of (appendSeq_calls gf lb L w hlen eg hseq)
  clear hseq
  go_enter Tryz.func73, Tryz.ntmps73
  go_wp2_with (go_at_call 116; refine HC.out.mono ?_; rintro e w1 ⟨v1, rfl, hrow1, hb1⟩)
  go_ret
  exact ⟨_, rfl, hrow1, hb1⟩
end Go.Proofs.YtdbbejedipfckaaGreatDoor
/-
  Steps taken one after another, as long as they answer OK.
-/
namespace Go.Proofs.YtdbbejedipfckaaGreatDoor
open Go Go.RowKit

/-- A step as a value: which function, and what it was given. -/
abbrev StepV := Nat × Array Value × Array Value
def stepVal (f : StepV) : Value := .func (.func f.1) f.2.1 f.2.2

set_option maxHeartbeats 2000000 in
set_option maxRecDepth 100000 in
theorem inTurn_calls (g n cap : Nat) (fs : List StepV) (w : World) (hn : fs.length = n) (hn9 : n ≤ 9) (J : Nat → World → Prop) (E : Int → World → Prop)
    (hcell : ∀ i W, J i W → ∀ f, fs[i]? = some f → W.cell? ⟨g, i, none⟩ = some (stepVal f)) (he : ∀ f ∈ fs, ∀ args w, (callFunc f.1 args).run Tryz.prog w = .ok (.enter f.1 args) w)
    (hstep : ∀ i f, fs[i]? = some f → ∀ W, J i W → Calls Tryz.prog f.1 (f.2.1 ++ f.2.2) W fun e W' => ∃ r, e = .returned (.int .i64 r) ∧ ((r = 0 ∧ J (i + 1) W') ∨ (r ≠ 0 ∧ E r W'))) (h0 : J 0 w) :
    Calls Tryz.prog 114 #[.slice (some ⟨g, 0, none⟩) n cap] w fun e w' => ∃ r, e = .returned (.int .i64 r) ∧ ((r = 0 ∧ J n w') ∨ (r ≠ 0 ∧ E r w')) := by
  have HC := hid_of hcell
  have HE := hid_of he
  have HS := hid_of hstep
  have HJ0 := hid_of h0
  clear hcell he hstep h0
  go_enter Tryz.func114, Tryz.ntmps114
  go_wp2_with fail
  go_loopw [8] (fun iv wr => ∃ k : Nat, k ≤ n ∧ iv = .int .i64 k ∧ J k wr) (fun iv _ => n - (intOf iv).toNat)
  case atStart => exact ⟨0, Nat.zero_le _, rfl, HJ0.out⟩
  case round =>
    obtain ⟨k, hk, rfl, hJ⟩ := hrel
    rename World => wr
    have HJ := hid_of hJ
    clear hJ
    by_cases hlt : k < n
    · obtain ⟨f, hf⟩ : ∃ f, fs[k]? = some f := ⟨_, List.getElem?_eq_getElem (by omega)⟩
      have y0 := HC.out k wr HJ.out f hf
      have hef := HE.out f (List.mem_of_getElem? hf)
      have hst := HS.out k f hf wr HJ.out
      obtain ⟨fk, bs, cs⟩ := f
      dsimp only [stepVal] at y0 hef hst
      have HST := hid_of hst
      have j1 : (0 : Int) ≤ (k : Int) := by omega
      have j2 : (k : Int) < (n : Int) := by omega
      clear hf hst
      go_wp2_with fail
      refine HST.out.mono ?_
      rintro e w1 ⟨r, rfl, hr⟩
      by_cases hr0 : r = 0
      · subst hr0
        have hJ1 : J (k + 1) w1 := by
          rcases hr with h | h
          · exact h.2
          · exact absurd rfl h.1
        go_wp2_with fail
        go_roundw
        case rel => exact ⟨k + 1, by omega, by go_num, hJ1⟩
        case measure => simp [intOf]; omega
      · have hb : (r == 0) = false := by rw [beq_eq_false_iff_ne]; exact hr0
        have hE : E r w1 := by
          rcases hr with h | h
          · exact absurd h.1 hr0
          · exact h.2
        go_wp2_with fail
        go_ret
        exact ⟨r, rfl, .inr ⟨hr0, hE⟩⟩
    · go_wp2_with fail
      go_ret
      obtain rfl : n = k := by omega
      exact ⟨0, rfl, .inl ⟨rfl, HJ.out⟩⟩

theorem isWorker_calls (rp : Option Addr) (i : Int) (w : World) : Calls Tryz.prog 72 #[.pointer rp, .int .i64 i] w fun e w' => e = .returned (.func (.func 115) #[] #[.pointer (some ⟨w.heap.size + 1, 0, none⟩), .pointer (some ⟨w.heap.size, 0, none⟩)]) ∧ w' = (w.alloc (Obj.cells #[.pointer rp] 37)).alloc (Obj.cells #[.int .i64 i] 3) := by
  go_enter Tryz.func72, Tryz.ntmps72
  go_wp2_with fail
  go_ret
  exact ⟨rfl, rfl⟩
theorem hasTask_calls (rp : Option Addr) (i : Int) (w : World) : Calls Tryz.prog 76 #[.pointer rp, .int .i64 i] w fun e w' => e = .returned (.func (.func 120) #[] #[.pointer (some ⟨w.heap.size, 0, none⟩), .pointer (some ⟨w.heap.size + 1, 0, none⟩)]) ∧ w' = (w.alloc (Obj.cells #[.pointer rp] 37)).alloc (Obj.cells #[.int .i64 i] 3) := by
  go_enter Tryz.func76, Tryz.ntmps76
  go_wp2_with fail
  go_ret
  exact ⟨rfl, rfl⟩
theorem doYoungest_calls (rp : Option Addr) (i : Int) (w : World) : Calls Tryz.prog 77 #[.pointer rp, .int .i64 i] w fun e w' => e = .returned (.func (.func 122) #[] #[.pointer (some ⟨w.heap.size, 0, none⟩), .pointer (some ⟨w.heap.size + 1, 0, none⟩)]) ∧ w' = (w.alloc (Obj.cells #[.pointer rp] 37)).alloc (Obj.cells #[.int .i64 i] 3) := by
  go_enter Tryz.func77, Tryz.ntmps77
  go_wp2_with fail
  go_ret
  exact ⟨rfl, rfl⟩
/-- The variables that a step holds: a run, a number. -/
def HeldAt (W : World) (Br Bw B : Nat) (i : Int) : Prop := BoxAt W Br 37 #[.pointer (some ⟨B, 0, none⟩)] ∧ BoxAt W Bw 3 #[.int .i64 i]
theorem HeldAt.below {W W' : World} {Br Bw B : Nat} {i : Int} (h : HeldAt W Br Bw B i) (hb : Below W.heap.size W W') : HeldAt W' Br Bw B i := ⟨h.1.below hb h.1.lt, h.2.below hb h.2.lt⟩
set_option maxHeartbeats 1000000 in
set_option maxRecDepth 100000 in
theorem hadRoom_calls (F : Nat → Prop) (B : Nat) (s : RunS) (w : World) (hx : XOK F w B s) : Calls Tryz.prog 118 #[.pointer (some ⟨B, 0, none⟩)] w fun e w' => e = .returned (.int .i64 (if s.over then 6 else 0)) ∧ w' = w := by
  obtain ⟨part, -, kv, wv, yv, M, xs, h⟩ := hx
  have hb := h.box
  have b6 : w.cell? ⟨B, 6, none⟩ = some (.bool s.over) := hb.cell (o := 6) rfl
  clear hb h
  obtain ⟨o, ho⟩ : ∃ o, s.over = o := ⟨_, rfl⟩
  rw [ho] at b6 ⊢
  go_enter Tryz.func118, Tryz.ntmps118
  cases o
  all_goals
    go_wp2_with fail
    go_ret
    exact ⟨rfl, rfl⟩
set_option maxHeartbeats 1000000 in
set_option maxRecDepth 100000 in
theorem isWorker1_calls (F : Nat → Prop) (B Br Bw : Nat) (s : RunS) (i : Int) (w : World) (hx : XOK F w B s) (hf : Fits s) (hh : HeldAt w Br Bw B i) :
    Calls Tryz.prog 115 #[.pointer (some ⟨Bw, 0, none⟩), .pointer (some ⟨Br, 0, none⟩)] w fun e w' => e = .returned (.int .i64 (if i < 0 ∨ s.workers ≤ i then 7 else 0)) ∧ Below w.heap.size w w' := by
  obtain ⟨part, -, kv, wv, yv, M, xs, h⟩ := hx
  have hb := h.box
  have hrow := h.wrow
  have hxl := h.wlen
  clear h
  obtain ⟨wa, wc, rfl⟩ := row_form hrow.1
  have b3 : w.cell? ⟨B, 3, none⟩ = some (.slice wa xs.length wc) := hb.cell (o := 3) rfl
  have r0 := hh.1.cell (o := 0) rfl
  have i0 := hh.2.cell (o := 0) rfl
  have hlen := hf.len
  have hxl' : (xs.length : Int) = s.workers := by rw [hxl]; exact hlen
  obtain ⟨res, hres⟩ : ∃ res : Int, (if i < 0 ∨ s.workers ≤ i then (7 : Int) else 0) = res := ⟨_, rfl⟩
  rw [hres]
  rw [← hxl'] at hres
  have HRES := hid_of hres
  clear hb hh hrow hxl hlen hf hxl' hres
  go_enter Tryz.func115, Tryz.ntmps115
  by_cases h1 : i < 0
  · have hr : res = 7 := by rw [← HRES.out, if_pos (.inl h1)]
    rw [hr]
    go_wp2_with fail
    go_quiet (fail)
    go_wp2_with fail
    go_ret
    exact ⟨rfl, below_drewN (Below.refl _ _) _⟩
  · by_cases h2 : (xs.length : Int) ≤ i
    · have hr : res = 7 := by rw [← HRES.out, if_pos (.inr h2)]
      rw [hr]
      have d1 : decide (i < 0) = false := decide_eq_false h1
      go_wp2_with fail
      go_quiet (fail)
      go_wp2_with fail
      go_ret
      exact ⟨rfl, below_drewN (Below.refl _ _) _⟩
    · have hr : res = 0 := by rw [← HRES.out, if_neg (by omega)]
      rw [hr]
      have d1 : decide (i < 0) = false := decide_eq_false h1
      have d2 : decide ((xs.length : Int) ≤ i) = false := decide_eq_false h2
      go_wp2_with fail
      go_quiet (fail)
      go_wp2_with fail
      go_ret
      exact ⟨rfl, below_drewN (Below.refl _ _) _⟩
end Go.Proofs.YtdbbejedipfckaaGreatDoor
/-
  A worker's list of tasks: whether it is idle, its youngest task, children in its place.
-/
namespace Go.Proofs.YtdbbejedipfckaaGreatDoor
open Go Go.RowKit

theorem idle_calls (X : Nat → Prop) (T : Nat) (room : Int) (l : List TaskS) (w : World) (ht : TaskListAt X w T room l) : Calls Tryz.prog 121 #[.pointer (some ⟨T, 0, none⟩)] w fun e w' => e = .returned (.bool (decide (l.length = 0))) ∧ w' = w := by
  obtain ⟨tv, hb, -, hr⟩ := ht
  obtain ⟨ta, tc, rfl⟩ := row_form hr.1
  have b0 := hb.cell (o := 0) rfl
  clear hb hr
  go_enter Tryz.func121, Tryz.ntmps121
  go_wp2_with fail
  go_ret
  refine ⟨?_, rfl⟩
  have e : ((l.length : Int) == 0) = decide (l.length = 0) := by rw [Bool.eq_iff_iff]; simp
  simp [e]
/-- What is known where a worker is asked for. -/
theorem x_worker {F : Nat → Prop} {B k : Nat} {s : RunS} {w : World} {x : WorkerS} (hx : XOK F w B s) (hk : s.W[k]? = some x) :
    ∃ (part : Nat → Nat) (kv yv : Value) (g c M T : Nat) (xs : List XW) (y : XW), (∀ b, part b ≠ 0 → F b) ∧ XAtO part w B s kv (.slice (some ⟨g, 0, none⟩) xs.length c) yv M xs ∧ xs[k]? = some y ∧ y.1 = T ∧ TaskListAt (fun b => part b = 10 + k) w T s.room x.tasks ∧ w.cell? ⟨g, k * 4, none⟩ = some (.pointer (some ⟨T, 0, none⟩)) ∧ k < xs.length := by
  obtain ⟨part, h0, kv, wv, yv, M, xs, h⟩ := hx
  have hk' := (List.getElem?_eq_some_iff.1 hk).1
  have hxl := h.wlen
  obtain ⟨y, hy⟩ : ∃ y, xs[k]? = some y := ⟨_, List.getElem?_eq_getElem (by omega)⟩
  obtain ⟨g, c, rfl, -, -⟩ := World.ownsRow.form h.wrow.1 (by omega)
  refine ⟨part, kv, yv, g, c, M, y.1, xs, y, h0, h, hy, rfl, (h.wat k y x hy hk).2, ?_, by omega⟩
  have := h.wrow.1.cells (g := g) rfl (k * 4 + 0) _ (flat_get (sz := 4) (enc := xwEnc) (fun _ => rfl) xs k y 0 _ hy rfl)
  rwa [addr_add] at this
set_option maxHeartbeats 1000000 in
set_option maxRecDepth 100000 in
theorem hasTask1_calls (F : Nat → Prop) (B Br Bw k : Nat) (s : RunS) (x : WorkerS) (w : World) (hx : XOK F w B s) (hk : s.W[k]? = some x) (hk5 : k < 5) (hh : HeldAt w Br Bw B k) :
    Calls Tryz.prog 120 #[.pointer (some ⟨Br, 0, none⟩), .pointer (some ⟨Bw, 0, none⟩)] w fun e w' => e = .returned (.int .i64 (if x.tasks.length = 0 then 8 else 0)) ∧ Below w.heap.size w w' := by
  obtain ⟨part, kv, yv, g, c, M, T, xs, y, -, h, -, -, ht, hc, hkl⟩ := x_worker hx hk
  have hb := h.box
  have hrw := h.wrow
  clear h
  have hgl0 : g < w.heap.size := (hrw.1.lt g rfl).2
  clear hrw
  have HI : Hid (∀ U, Below w.heap.size w U → Calls Tryz.prog 121 #[.pointer (some ⟨T, 0, none⟩)] U fun e w' => e = .returned (.bool (decide (x.tasks.length = 0))) ∧ Below w.heap.size w w') := fun U hU => by
    refine (idle_calls (fun b => part b = 10 + k) T s.room x.tasks U (ht.kept (Kept.of_below hU (X := fun b => w.heap.size ≤ b) (fun _ _ h => h)) (fun g hg h => ⟨by omega, h⟩))).mono ?_
    rintro e w' ⟨rfl, rfl⟩
    exact ⟨rfl, hU⟩
  have b3 : w.cell? ⟨B, 3, none⟩ = some (.slice (some ⟨g, 0, none⟩) xs.length c) := hb.cell (o := 3) rfl
  have r0 := hh.1.cell (o := 0) rfl
  have i0 := hh.2.cell (o := 0) rfl
  have j1 : (0 : Int) ≤ (k : Int) := by omega
  have j2 : (k : Int) < (xs.length : Int) := by omega
  obtain ⟨eb, heb⟩ : ∃ eb, decide (x.tasks.length = 0) = eb := ⟨_, rfl⟩
  rw [heb] at HI
  have hif : (if x.tasks.length = 0 then (8 : Int) else 0) = if eb then 8 else 0 := by rw [← heb]; simp
  rw [hif]
  have hgl : g < w.heap.size ∧ B < w.heap.size ∧ Br < w.heap.size ∧ Bw < w.heap.size := ⟨hgl0, hb.lt, hh.1.lt, hh.2.lt⟩
  have HST : Hid (∀ U, Below w.heap.size w U → Below w.heap.size w U ∧ U.cell? ⟨B, 3, none⟩ = some (.slice (some ⟨g, 0, none⟩) xs.length c) ∧ U.cell? ⟨Br, 0, none⟩ = some (.pointer (some ⟨B, 0, none⟩)) ∧ U.cell? ⟨Bw, 0, none⟩ = some (.int .i64 k) ∧ U.cell? ⟨g, k * 4, none⟩ = some (.pointer (some ⟨T, 0, none⟩))) := fun U hU => ⟨hU, (hU.cell (p := ⟨B, 3, none⟩) hgl.2.1).trans b3, (hU.cell (p := ⟨Br, 0, none⟩) hgl.2.2.1).trans r0, (hU.cell (p := ⟨Bw, 0, none⟩) hgl.2.2.2).trans i0, (hU.cell (p := ⟨g, k * 4, none⟩) hgl.1).trans hc⟩
  clear hif heb hb hh ht hgl
  go_enter Tryz.func120, Tryz.ntmps120
  go_upto_region 1 with fail
  go_region_held3 (fun U => Below w.heap.size w U ∧ U.cell? ⟨B, 3, none⟩ = some (.slice (some ⟨g, 0, none⟩) xs.length c) ∧ U.cell? ⟨Br, 0, none⟩ = some (.pointer (some ⟨B, 0, none⟩)) ∧ U.cell? ⟨Bw, 0, none⟩ = some (.int .i64 k) ∧ U.cell? ⟨g, k * 4, none⟩ = some (.pointer (some ⟨T, 0, none⟩)))
    (first | assumption | (exact HST.out _ (by assumption)) | (exact HST.out _ (Below.refl _ _)) | (exact HST.out _ (Below.refl _ _).drew))
    (first
    | (go_at_call 121; refine (HI.out _ (by first | assumption | exact Below.refl _ _ | exact (Below.refl _ _).drew | exact And.left (by assumption))).mono ?_; rintro e w1 ⟨rfl, hb1⟩))
  cases eb
  all_goals
    go_wp2_with fail
    go_ret
    exact ⟨rfl, by first | exact hb1 | exact hb1.drew⟩
end Go.Proofs.YtdbbejedipfckaaGreatDoor
