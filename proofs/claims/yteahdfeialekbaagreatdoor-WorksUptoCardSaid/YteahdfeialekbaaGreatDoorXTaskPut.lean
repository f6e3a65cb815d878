/-
  slices.Collect gathers what an iterator that turns nothing tells into a new list.
-/
import Derived.Test.YteahdfeialekbaaGreatDoorXParts
import Derived.OwnWalkIn
import Derived.Test.YteahdfeialekbaaGreatDoorXPut
import Derived.Lib.SliceRun
import Derived.StillTailTactics
import Derived.Test.YteahdfeialekbaaGreatDoorXOut
namespace Go.Proofs.YteahdfeialekbaaGreatDoor
open Go Go.RowKit Go.Shelf
attribute [local go_sem] Oper.semAt_some
set_option maxHeartbeats 2000000 in
set_option maxRecDepth 100000 in
theorem appendSeq_calls (gf : Nat) (lb : Array Value) (L : List TaskS) (w : World) (hlen : L.length <= 1000) (eg : ∀ args w, (callFunc gf args).run Tryz.prog w = .ok (.enter gf args) w)
  (hseq : ∀ (n : Nat) (X : Nat -> Prop) (W : World), Below w.heap.size w W -> (∀ k, X k -> w.heap.size <= k) -> SeqY Fence.wide n Tryz.prog gf lb (fun c : TaskS => #[taskV c]) X L W) :
  Calls Tryz.prog 121 #[.slice none 0 0, .func (.func gf) #[] lb] w fun e w' => ∃ v, e = .returned v /\ w'.ownsRow w.heap.size 76 3 v L.length (L.flatMap taskEnc) /\ Below w.heap.size w w' := by
 obtain ⟨iT, hiT, hzT0, hzT1, hzT2⟩ := info_parts infoTask
 refine (callsIn_wide (n := 5)).1 ?_
 refine callsIn_of_wp_marks Tryz.func121 rfl trivial ?_ rfl
 simp only [Tryz.ntmps121, List.size_toArray, List.length_cons, List.length_nil, Nat.reduceAdd, Nat.reduceSub, Array.replicate_succ, Array.replicate_zero, List.push_toArray, List.append_toArray, List.nil_append, List.cons_append]
 gi_wp2_with fail
 obtain ⟨Z, hZ⟩ : ∃ Z, w.alloc (Obj.cells #[.slice none 0 0] 52) = Z := ⟨_, rfl⟩
 have hbZ : Below w.heap.size w Z := by rw [<- hZ]; exact (Below.refl _ _).alloc (Nat.le_refl _) _
 have sZ : Z.heap.size = w.heap.size + 1 := by rw [<- hZ]; simp
 have bS : BoxAt Z w.heap.size 52 #[.slice none 0 0] := by rw [<- hZ]; exact BoxAt.new w _ _
 rw [hZ]
 clear hZ
 have hseqZ : ∀ W, Below Z.heap.size Z W -> W.heap.size = Z.heap.size + 2 -> SeqY Fence.wide (5 - 1) Tryz.prog gf lb (fun c : TaskS => #[taskV c]) (fun k => (k = w.heap.size \/ Z.heap.size + 2 <= k) \/ k = Z.heap.size + 1) L W := fun W hW _ => hseq _ _ W (hbZ.trans (hW.mono (by omega))) (fun k h => by omega)
 refine range_lawY (F := Fence.wide) (n := 5) (w := Z) rfl (fun h => (by cases h)) (gf := gf) (lb := lb) (by rfl) trivial eg
  (fun k => k = w.heap.size \/ Z.heap.size + 2 <= k) (fun k h => by omega) hseqZ (fun _ => by rfl)
  (fun pre U => ∃ v, BoxAt U w.heap.size 52 #[v] /\ U.ownsRow (Z.heap.size + 2) 76 3 v pre.length (pre.flatMap taskEnc) /\ Kept (· = w.heap.size) Z U)
  (fun s A B h hk => by
   obtain ⟨v, h1, h2, h4⟩ := h
   exact ⟨v, h1.kept hk (by omega), row_kept h2 hk (fun g e h => by have := (h2.lt g e).1; omega) (Nat.le_refl _), h4.andThen hk (fun b hb h => by omega)⟩)
  ⟨_, bS, World.ownsRow_nil _ _ _ _, Kept.refl _ _⟩
  (fun pre c a' U => ∃ Bx, Z.heap.size + 2 <= Bx /\ BoxAt U Bx 76 #[.string c.id, .int .i64 c.kind, .int .i64 c.arg] /\ a' = Act.mk #[Value.slice none 0 0, Value.func (Fn.func gf) #[] lb, Value.pointer (some { block := w.heap.size, off := 0 }), undef, Value.slice none 0 0, Value.pointer (some { block := Bx, off := 0 }), Value.func (Fn.func gf) #[] lb, Value.agg #[.string c.id, .int .i64 c.kind, .int .i64 c.arg], undef, undef, undef, undef, undef] [])
  (fun pre c a' A A' h hk => by
   obtain ⟨Bx, e1, e2, e3⟩ := h
   exact ⟨Bx, e1, e2.kept hk (by omega), e3⟩) ?assign ?body ?done
 case assign =>
  rintro l' pre' ⟨id', k', x'⟩ U K hpre ⟨v, h1, h2, h4⟩ hszU hK
  simp only [taskV]
  gi_wp2
  exact hK _ _ (Kept.alloc _ _ _) ⟨v, h1.alloc _, row_kept h2 (Kept.alloc (fun _ => False) _ _) (fun _ _ h => h) (Nat.le_refl _), h4.trans (Kept.alloc _ _ _)⟩ ⟨U.heap.size, hszU, BoxAt.new U _ _, rfl⟩
 case body =>
  rintro l' pre' ⟨id', k', x'⟩ a' U hpre ⟨v, h1, h2, h4⟩ ⟨Bx, hBx, bX, rfl⟩ hszU
  simp only at bX
  have hpl : pre'.length + 1 <= 1000 := by
   have := hpre.length_le
   rw [List.length_append] at this
   simp at this
   omega
  obtain ⟨va, vc, hvf⟩ := row_form h2
  subst hvf
  have s0 := h1.cell (o := 0) rfl
  have x0 := bX.cell (o := 0) rfl
  have x1 := bX.cell (o := 1) rfl
  have x2 := bX.cell (o := 2) rfl
  have H1 := hid_of h1
  have H2 := hid_of h2
  have H4 := hid_of h4
  have HNB : Hid ((Value.slice va pre'.length vc).ownBlock ≠ some w.heap.size) := row_ne h2 h1 (by decide)
  have hul := h1.lt
  clear h1 h2 h4 bX hpre
  gi_wp2_with (gi_at_builtin; refine wpListIn_append_own _ rfl _ _ _ rfl (Z.heap.size + 2) 76 iT _ 3 32 Tryz.underlying52 hiT hzT0 hzT1 hzT2 rfl (by omega) (Value.slice va pre'.length vc) pre'.length (pre'.flatMap taskEnc) rfl (H2.out.alloc _) ⟨U.heap.size, 0, none⟩ 1 1 [.string id', .int .i64 k', .int .i64 x'] rfl rfl (World.news_of_block (cs := #[.string id', .int .i64 k', .int .i64 x']) (t := 76) (fr := (0, 0)) (heap_alloc_new U _)) (by simp [Value.oneCell']) (by unfold maxLen; omega) (by omega) (by simp; omega) ?_; intro v1 w1 hown1 hgrow1 _; obtain ⟨a1, c1, rfl⟩ := row_form hown1; have hbs1 : BoxAt w1 w.heap.size 52 #[.slice va pre'.length vc] := (hgrow1.block _ (by simp; omega) (fun e => HNB.out e.symm)).trans (H1.out.alloc _); have q1 := hbs1.cell (o := 0) rfl; have f1 := hbs1.frozen 0)
  have kU1 : Kept (fun b => (Value.slice va pre'.length vc).ownBlock = some b) U w1 := (Kept.alloc _ _ _).trans (Kept.grown hgrow1 (fun r e => e))
  have k12 : Kept (· = w.heap.size) w1 (w1.setCell ⟨w.heap.size, 0, none⟩ (.slice a1 (pre'.length + 1) c1)) := (Kept.refl _ _).setCell (.inl (by rfl)) _
  have hkX : Kept (fun k => k = w.heap.size \/ Z.heap.size + 2 <= k) U (w1.setCell ⟨w.heap.size, 0, none⟩ (.slice a1 (pre'.length + 1) c1)) := (kU1.mono (fun b _ h => .inr (H2.out.lt b h).1)).trans (k12.mono (fun b _ h => .inl h))
  refine ⟨hkX, _, hbs1.setAt 0 _, ?_, H4.out.andThen hkX (fun b hb h => by omega)⟩
  rw [List.length_append, List.flatMap_append]
  exact row_kept hown1 k12 (fun g e h => by subst h; exact row_ne hown1 hbs1 (by decide) e) (Nat.le_refl _)
 case done =>
  rintro Dd U hD ⟨v, h1, h2, h4⟩ hK
  obtain ⟨va, vc, hvf⟩ := row_form h2
  subst hvf
  have s0 := h1.cell (o := 0) rfl
  gi_wp2
  refine ⟨by simp, .inl ⟨_, _, rfl, run_takeDeferred hK, ?_⟩⟩
  have hkF : Kept (· = Dd) U (U.putObj Dd (.deferred none)) := Kept.putObj _ _ _ rfl
  have hDu := (Array.getElem?_eq_some_iff.1 hK).1
  have hbU : Below w.heap.size w U := hbZ.trans (h4.below (by omega) (fun b h => by omega))
  refine ⟨.slice va L.length vc, by simp [results, Tryz.f121, go_sem], _, rfl, row_kept h2 hkF (fun g e h => ?_) (by omega), hbU.trans (hkF.below hbU.size (fun k e => by omega))⟩
  obtain ⟨cs, hcs⟩ := row_obj h2 e
  rw [h, hK] at hcs
  cases hcs
set_option maxHeartbeats 1000000 in
theorem collect_calls (gf : Nat) (lb : Array Value) (L : List TaskS) (w : World) (hlen : L.length <= 1000) (eg : ∀ args w, (callFunc gf args).run Tryz.prog w = .ok (.enter gf args) w)
  (hseq : ∀ (n : Nat) (X : Nat -> Prop) (W : World), Below w.heap.size w W -> (∀ k, X k -> w.heap.size <= k) -> SeqY Fence.wide n Tryz.prog gf lb (fun c : TaskS => #[taskV c]) X L W) :
  Calls Tryz.prog 74 #[.func (.func gf) #[] lb] w fun e w' => ∃ v, e = .returned v /\ w'.ownsRow w.heap.size 76 3 v L.length (L.flatMap taskEnc) /\ Below w.heap.size w w' := by
 have HC := hid_of (appendSeq_calls gf lb L w hlen eg hseq)
 clear hseq
 go_enter Tryz.func74, Tryz.ntmps74
 go_wp2_with (go_at_call 121; refine HC.out.mono ?_; rintro e w1 ⟨v1, rfl, hrow1, hb1⟩)
 go_ret
 exact ⟨_, rfl, hrow1, hb1⟩
end Go.Proofs.YteahdfeialekbaaGreatDoor
namespace Go.Proofs.YteahdfeialekbaaGreatDoor
open Go Go.RowKit
abbrev StepV := Nat × Array Value × Array Value
def stepVal (f : StepV) : Value := .func (.func f.1) f.2.1 f.2.2
set_option maxHeartbeats 2000000 in
set_option maxRecDepth 100000 in
theorem inTurn_calls (g n cap : Nat) (fs : List StepV) (w : World) (hn : fs.length = n) (hn9 : n <= 9) (J : Nat -> World -> Prop) (E : Int -> World -> Prop)
  (hcell : ∀ i W, J i W -> ∀ f, fs[i]? = some f -> W.cell? ⟨g, i, none⟩ = some (stepVal f)) (he : ∀ f ∈ fs, ∀ args w, (callFunc f.1 args).run Tryz.prog w = .ok (.enter f.1 args) w)
  (hstep : ∀ i f, fs[i]? = some f -> ∀ W, J i W -> Calls Tryz.prog f.1 (f.2.1 ++ f.2.2) W fun e W' => ∃ r, e = .returned (.int .i64 r) /\ ((r = 0 /\ J (i + 1) W') \/ (r ≠ 0 /\ E r W'))) (h0 : J 0 w) :
  Calls Tryz.prog 119 #[.slice (some ⟨g, 0, none⟩) n cap] w fun e w' => ∃ r, e = .returned (.int .i64 r) /\ ((r = 0 /\ J n w') \/ (r ≠ 0 /\ E r w')) := by
 have HC := hid_of hcell
 have HE := hid_of he
 have HS := hid_of hstep
 have HJ0 := hid_of h0
 clear hcell he hstep h0
 go_enter Tryz.func119, Tryz.ntmps119
 go_wp2_with fail
 go_loopw [8] (fun iv wr => ∃ k : Nat, k <= n /\ iv = .int .i64 k /\ J k wr) (fun iv _ => n - (intOf iv).toNat)
 case atStart => exact ⟨0, Nat.zero_le _, rfl, HJ0.out⟩
 case round =>
  obtain ⟨k, hk, rfl, hJ⟩ := hrel
  rename World => wr
  have HJ := hid_of hJ
  clear hJ
  by_cases hlt : k < n
  ·obtain ⟨f, hf⟩ : ∃ f, fs[k]? = some f := ⟨_, List.getElem?_eq_getElem (by omega)⟩
   have y0 := HC.out k wr HJ.out f hf
   have hef := HE.out f (List.mem_of_getElem? hf)
   have hst := HS.out k f hf wr HJ.out
   obtain ⟨fk, bs, cs⟩ := f
   dsimp only [stepVal] at y0 hef hst
   have HST := hid_of hst
   have j1 : (0 : Int) <= (k : Int) := by omega
   have j2 : (k : Int) < (n : Int) := by omega
   clear hf hst
   go_wp2_with fail
   refine HST.out.mono ?_
   rintro e w1 ⟨r, rfl, hr⟩
   by_cases hr0 : r = 0
   ·subst hr0
    have hJ1 : J (k + 1) w1 := by
     rcases hr with h | h
     ·exact h.2
     ·exact absurd rfl h.1
    go_wp2_with fail
    go_roundw
    case rel => exact ⟨k + 1, by omega, by go_num, hJ1⟩
    case measure => simp [intOf]; omega
   ·have hb : (r == 0) = false := by rw [beq_eq_false_iff_ne]; exact hr0
    have hE : E r w1 := by
     rcases hr with h | h
     ·exact absurd h.1 hr0
     ·exact h.2
    go_wp2_with fail
    go_ret
    exact ⟨r, rfl, .inr ⟨hr0, hE⟩⟩
  ·go_wp2_with fail
   go_ret
   obtain rfl : n = k := by omega
   exact ⟨0, rfl, .inl ⟨rfl, HJ.out⟩⟩
theorem isWorker_calls (rp : Option Addr) (i : Int) (w : World) : Calls Tryz.prog 73 #[.pointer rp, .int .i64 i] w fun e w' => e = .returned (.func (.func 120) #[] #[.pointer (some ⟨w.heap.size + 1, 0, none⟩), .pointer (some ⟨w.heap.size, 0, none⟩)]) /\ w' = (w.alloc (Obj.cells #[.pointer rp] 37)).alloc (Obj.cells #[.int .i64 i] 3) := by
 go_enter Tryz.func73, Tryz.ntmps73
 go_wp2_with fail
 go_ret
 exact ⟨rfl, rfl⟩
theorem hasTask_calls (rp : Option Addr) (i : Int) (w : World) : Calls Tryz.prog 77 #[.pointer rp, .int .i64 i] w fun e w' => e = .returned (.func (.func 125) #[] #[.pointer (some ⟨w.heap.size, 0, none⟩), .pointer (some ⟨w.heap.size + 1, 0, none⟩)]) /\ w' = (w.alloc (Obj.cells #[.pointer rp] 37)).alloc (Obj.cells #[.int .i64 i] 3) := by
 go_enter Tryz.func77, Tryz.ntmps77
 go_wp2_with fail
 go_ret
 exact ⟨rfl, rfl⟩
theorem doYoungest_calls (rp : Option Addr) (i : Int) (w : World) : Calls Tryz.prog 78 #[.pointer rp, .int .i64 i] w fun e w' => e = .returned (.func (.func 127) #[] #[.pointer (some ⟨w.heap.size, 0, none⟩), .pointer (some ⟨w.heap.size + 1, 0, none⟩)]) /\ w' = (w.alloc (Obj.cells #[.pointer rp] 37)).alloc (Obj.cells #[.int .i64 i] 3) := by
 go_enter Tryz.func78, Tryz.ntmps78
 go_wp2_with fail
 go_ret
 exact ⟨rfl, rfl⟩
def HeldAt (W : World) (Br Bw B : Nat) (i : Int) : Prop := BoxAt W Br 37 #[.pointer (some ⟨B, 0, none⟩)] /\ BoxAt W Bw 3 #[.int .i64 i]
theorem HeldAt.below {W W' : World} {Br Bw B : Nat} {i : Int} (h : HeldAt W Br Bw B i) (hb : Below W.heap.size W W') : HeldAt W' Br Bw B i := ⟨h.1.below hb h.1.lt, h.2.below hb h.2.lt⟩
set_option maxHeartbeats 1000000 in
set_option maxRecDepth 100000 in
theorem hadRoom_calls (F : Nat -> Prop) (B : Nat) (s : RunS) (w : World) (hx : XOK F w B s) : Calls Tryz.prog 123 #[.pointer (some ⟨B, 0, none⟩)] w fun e w' => e = .returned (.int .i64 (if s.over then 6 else 0)) /\ w' = w := by
 obtain ⟨part, -, kv, wv, yv, M, xs, h⟩ := hx
 have hb := h.box
 have b6 : w.cell? ⟨B, 6, none⟩ = some (.bool s.over) := hb.cell (o := 6) rfl
 clear hb h
 obtain ⟨o, ho⟩ : ∃ o, s.over = o := ⟨_, rfl⟩
 rw [ho] at b6 ⊢
 go_enter Tryz.func123, Tryz.ntmps123
 cases o
 all_goals
  go_wp2_with fail
  go_ret
  exact ⟨rfl, rfl⟩
set_option maxHeartbeats 1000000 in
set_option maxRecDepth 100000 in
theorem isWorker1_calls (F : Nat -> Prop) (B Br Bw : Nat) (s : RunS) (i : Int) (w : World) (hx : XOK F w B s) (hf : Fits s) (hh : HeldAt w Br Bw B i) :
  Calls Tryz.prog 120 #[.pointer (some ⟨Bw, 0, none⟩), .pointer (some ⟨Br, 0, none⟩)] w fun e w' => e = .returned (.int .i64 (if i < 0 \/ s.workers <= i then 7 else 0)) /\ Below w.heap.size w w' := by
 obtain ⟨part, -, kv, wv, yv, M, xs, h⟩ := hx
 have hb := h.box
 have hrow := h.wrow
 have hxl := h.wlen
 clear h
 obtain ⟨wa, wc, rfl⟩ := row_form hrow.1
 have b3 : w.cell? ⟨B, 3, none⟩ = some (.slice wa xs.length wc) := hb.cell (o := 3) rfl
 have r0 := hh.1.cell (o := 0) rfl
 have i0 := hh.2.cell (o := 0) rfl
 have hlen := hf.len
 have hxl' : (xs.length : Int) = s.workers := by rw [hxl]; exact hlen
 obtain ⟨res, hres⟩ : ∃ res : Int, (if i < 0 \/ s.workers <= i then (7 : Int) else 0) = res := ⟨_, rfl⟩
 rw [hres]
 rw [<- hxl'] at hres
 have HRES := hid_of hres
 clear hb hh hrow hxl hlen hf hxl' hres
 go_enter Tryz.func120, Tryz.ntmps120
 by_cases h1 : i < 0
 ·have hr : res = 7 := by rw [<- HRES.out, if_pos (.inl h1)]
  rw [hr]
  go_wp2_with fail
  go_quiet (fail)
  go_wp2_with fail
  go_ret
  exact ⟨rfl, below_drewN (Below.refl _ _) _⟩
 ·by_cases h2 : (xs.length : Int) <= i
  ·have hr : res = 7 := by rw [<- HRES.out, if_pos (.inr h2)]
   rw [hr]
   have d1 : decide (i < 0) = false := decide_eq_false h1
   go_wp2_with fail
   go_quiet (fail)
   go_wp2_with fail
   go_ret
   exact ⟨rfl, below_drewN (Below.refl _ _) _⟩
  ·have hr : res = 0 := by rw [<- HRES.out, if_neg (by omega)]
   rw [hr]
   have d1 : decide (i < 0) = false := decide_eq_false h1
   have d2 : decide ((xs.length : Int) <= i) = false := decide_eq_false h2
   go_wp2_with fail
   go_quiet (fail)
   go_wp2_with fail
   go_ret
   exact ⟨rfl, below_drewN (Below.refl _ _) _⟩
theorem idle_calls (X : Nat -> Prop) (T : Nat) (room : Int) (l : List TaskS) (w : World) (ht : TaskListAt X w T room l) : Calls Tryz.prog 126 #[.pointer (some ⟨T, 0, none⟩)] w fun e w' => e = .returned (.bool (decide (l.length = 0))) /\ w' = w := by
 obtain ⟨tv, hb, -, hr⟩ := ht
 obtain ⟨ta, tc, rfl⟩ := row_form hr.1
 have b0 := hb.cell (o := 0) rfl
 clear hb hr
 go_enter Tryz.func126, Tryz.ntmps126
 go_wp2_with fail
 go_ret
 refine ⟨?_, rfl⟩
 have e : ((l.length : Int) == 0) = decide (l.length = 0) := by rw [Bool.eq_iff_iff]; simp
 simp [e]
theorem x_worker {F : Nat -> Prop} {B k : Nat} {s : RunS} {w : World} {x : WorkerS} (hx : XOK F w B s) (hk : s.W[k]? = some x) :
  ∃ (part : Nat -> Nat) (kv yv : Value) (g c M T : Nat) (xs : List XW) (y : XW), (∀ b, part b ≠ 0 -> F b) /\ XAtO part w B s kv (.slice (some ⟨g, 0, none⟩) xs.length c) yv M xs /\ xs[k]? = some y /\ y.T = T /\ TaskListAt (fun b => part b = 10 + k) w T s.room x.tasks /\ w.cell? ⟨g, k * 7, none⟩ = some (.pointer (some ⟨T, 0, none⟩)) /\ k < xs.length := by
 obtain ⟨part, h0, kv, wv, yv, M, xs, h⟩ := hx
 have hk' := (List.getElem?_eq_some_iff.1 hk).1
 have hxl := h.wlen
 obtain ⟨y, hy⟩ : ∃ y, xs[k]? = some y := ⟨_, List.getElem?_eq_getElem (by omega)⟩
 obtain ⟨g, c, rfl, -, -⟩ := World.ownsRow.form h.wrow.1 (by omega)
 refine ⟨part, kv, yv, g, c, M, y.T, xs, y, h0, h, hy, rfl, (h.wat k y x hy hk).2, ?_, by omega⟩
 have := h.wrow.1.cells (g := g) rfl (k * 7 + 0) _ (flat_get (sz := 7) (enc := xwEnc) (fun _ => rfl) xs k y 0 _ hy rfl)
 rwa [addr_add] at this
set_option maxHeartbeats 1000000 in
set_option maxRecDepth 100000 in
theorem hasTask1_calls (F : Nat -> Prop) (B Br Bw k : Nat) (s : RunS) (x : WorkerS) (w : World) (hx : XOK F w B s) (hk : s.W[k]? = some x) (hk5 : k < 5) (hh : HeldAt w Br Bw B k) :
  Calls Tryz.prog 125 #[.pointer (some ⟨Br, 0, none⟩), .pointer (some ⟨Bw, 0, none⟩)] w fun e w' => e = .returned (.int .i64 (if x.tasks.length = 0 then 8 else 0)) /\ Below w.heap.size w w' := by
 obtain ⟨part, kv, yv, g, c, M, T, xs, y, -, h, -, -, ht, hc, hkl⟩ := x_worker hx hk
 have hb := h.box
 have hrw := h.wrow
 clear h
 have hgl0 : g < w.heap.size := (hrw.1.lt g rfl).2
 clear hrw
 have HI : Hid (∀ U, Below w.heap.size w U -> Calls Tryz.prog 126 #[.pointer (some ⟨T, 0, none⟩)] U fun e w' => e = .returned (.bool (decide (x.tasks.length = 0))) /\ Below w.heap.size w w') := fun U hU => by
  refine (idle_calls (fun b => part b = 10 + k) T s.room x.tasks U (ht.kept (Kept.of_below hU (X := fun b => w.heap.size <= b) (fun _ _ h => h)) (fun g hg h => ⟨by omega, h⟩))).mono ?_
  rintro e w' ⟨rfl, rfl⟩
  exact ⟨rfl, hU⟩
 have b3 : w.cell? ⟨B, 3, none⟩ = some (.slice (some ⟨g, 0, none⟩) xs.length c) := hb.cell (o := 3) rfl
 have r0 := hh.1.cell (o := 0) rfl
 have i0 := hh.2.cell (o := 0) rfl
 have j1 : (0 : Int) <= (k : Int) := by omega
 have j2 : (k : Int) < (xs.length : Int) := by omega
 obtain ⟨eb, heb⟩ : ∃ eb, decide (x.tasks.length = 0) = eb := ⟨_, rfl⟩
 rw [heb] at HI
 have hif : (if x.tasks.length = 0 then (8 : Int) else 0) = if eb then 8 else 0 := by rw [<- heb]; simp
 rw [hif]
 have hgl : g < w.heap.size /\ B < w.heap.size /\ Br < w.heap.size /\ Bw < w.heap.size := ⟨hgl0, hb.lt, hh.1.lt, hh.2.lt⟩
 have HST : Hid (∀ U, Below w.heap.size w U -> Below w.heap.size w U /\ U.cell? ⟨B, 3, none⟩ = some (.slice (some ⟨g, 0, none⟩) xs.length c) /\ U.cell? ⟨Br, 0, none⟩ = some (.pointer (some ⟨B, 0, none⟩)) /\ U.cell? ⟨Bw, 0, none⟩ = some (.int .i64 k) /\ U.cell? ⟨g, k * 7, none⟩ = some (.pointer (some ⟨T, 0, none⟩))) := fun U hU => ⟨hU, (hU.cell (p := ⟨B, 3, none⟩) hgl.2.1).trans b3, (hU.cell (p := ⟨Br, 0, none⟩) hgl.2.2.1).trans r0, (hU.cell (p := ⟨Bw, 0, none⟩) hgl.2.2.2).trans i0, (hU.cell (p := ⟨g, k * 7, none⟩) hgl.1).trans hc⟩
 clear hif heb hb hh ht hgl
 go_enter Tryz.func125, Tryz.ntmps125
 go_upto_region 1 with fail
 go_region_held3 (fun U => Below w.heap.size w U /\ U.cell? ⟨B, 3, none⟩ = some (.slice (some ⟨g, 0, none⟩) xs.length c) /\ U.cell? ⟨Br, 0, none⟩ = some (.pointer (some ⟨B, 0, none⟩)) /\ U.cell? ⟨Bw, 0, none⟩ = some (.int .i64 k) /\ U.cell? ⟨g, k * 7, none⟩ = some (.pointer (some ⟨T, 0, none⟩)))
  (first | assumption | (exact HST.out _ (by assumption)) | (exact HST.out _ (Below.refl _ _)) | (exact HST.out _ (Below.refl _ _).drew))
  (first
  | (go_at_call 126; refine (HI.out _ (by first | assumption | exact Below.refl _ _ | exact (Below.refl _ _).drew | exact And.left (by assumption))).mono ?_; rintro e w1 ⟨rfl, hb1⟩))
 cases eb
 all_goals
  go_wp2_with fail
  go_ret
  exact ⟨rfl, by first | exact hb1 | exact hb1.drew⟩
theorem row_init {W : World} {base g c : Nat} {L : List TaskS} {t : TaskS} (h : W.ownsRow base 76 3 (.slice (some ⟨g, 0, none⟩) (L.length + 1) c) (L.length + 1) (L.flatMap taskEnc ++ taskEnc t)) : W.ownsRow base 76 3 (.slice (some ⟨g, 0, none⟩) L.length c) L.length (L.flatMap taskEnc) := by
 have hfl : (L.flatMap taskEnc).length = L.length * 3 := flat_length (sz := 3) (enc := taskEnc) (fun _ => rfl) L
 obtain ⟨h1, h2⟩ := h
 rcases h2 with ⟨h0, _⟩ | ⟨g', cap', cur, h0, hb, hcur, hnc, hcm, hcs, htk⟩
 ·cases h0
 ·cases h0
  refine ⟨hfl, .inr ⟨g, c, cur, rfl, hb, hcur, by omega, hcm, hcs, ?_⟩⟩
  have := congrArg (List.take (L.length * 3)) htk
  rw [List.take_take, Nat.min_eq_left (by omega), List.take_append_of_le_length (by omega), <- hfl, List.take_length] at this
  rw [<- hfl]
  exact this
theorem row_last {W : World} {base g c : Nat} {L : List TaskS} {t : TaskS} (h : W.ownsRow base 76 3 (.slice (some ⟨g, 0, none⟩) (L.length + 1) c) (L.length + 1) (L.flatMap taskEnc ++ taskEnc t)) (j : Nat) (u : Value) (hj : (taskEnc t)[j]? = some u) : W.cell? ⟨g, L.length * 3 + j, none⟩ = some u := by
 have h1 := h.cells (g := g) rfl (L.length * 3 + j) u (by
  have hfl : (L.flatMap taskEnc).length = L.length * 3 := flat_length (sz := 3) (enc := taskEnc) (fun _ => rfl) L
  rw [List.getElem?_append_right (by omega), hfl, show L.length * 3 + j - L.length * 3 = j from by omega]
  exact hj)
 rwa [addr_add] at h1
theorem tasks_row {X : Nat -> Prop} {W : World} {T : Nat} {room : Int} {L : List TaskS} {t : TaskS} (h : TaskListAt X W T room (L ++ [t])) : ∃ g c, BoxAt W T 179 #[.slice (some ⟨g, 0, none⟩) (L.length + 1) c, .int .i64 room] /\ X T /\ X g /\ W.ownsRow 0 76 3 (.slice (some ⟨g, 0, none⟩) (L.length + 1) c) (L.length + 1) (L.flatMap taskEnc ++ taskEnc t) := by
 obtain ⟨tv, hb, hT, hr, hX⟩ := h
 rw [List.length_append, List.flatMap_append] at hr
 obtain ⟨g, c, rfl, -, -⟩ := World.ownsRow.form hr (by simp)
 exact ⟨g, c, hb, hT, hX g rfl, by simpa using hr⟩
theorem wpList_append_where {P : Program} {w : World} {ops : Array Oper} {rest : List Oper} {o : Oper} {a : Act} {Q : Exit -> Act -> World -> Prop} (hgd : o.guard = none) (s x : Operand) (t : TypeId)
  (ho : o.op = .call { callee := .builtin .append, args := #[s, x], argTypes := #[t, t] })
  (e : TypeId) (i : TypeInfo) (z : Value) (size bytes : Nat) (ht : P.underlying t = some (.slice e)) (hi : P.info? e = some i) (hz : i.zero = some z)
  (hsize : i.size = size) (hby : i.bytes = bytes) (hzs : z.cells.size = size) (hsz : 0 < size)
  (g cap n : Nat) (xs : List Value) (hs : a.eval s = .slice (some ⟨g, 0, none⟩) n cap) (hown : w.ownsRow 0 e size (.slice (some ⟨g, 0, none⟩) n cap) n xs)
  (ad : Option Addr) (m c : Nat) (news : List Value) (hx : a.eval x = .slice ad m c) (hl : news.length = m * size) (hnews : ∀ j u, news[j]? = some u -> ∃ b, ad = some b /\ w.cell? (b.add j) = some u) (h1 : ∀ u ∈ news, u.oneCell' = true)
  (h63 : n + m <= maxLen) (hbytes : (n + m) * bytes <= 140737488355328)
  (h : ∀ g' c' w', w'.ownsRow 0 e size (.slice (some ⟨g', 0, none⟩) (n + m) c') (n + m) (xs ++ news) -> w.grownBy w' (some g) -> (g' = g \/ w.heap.size <= g') -> wpList P ops Q rest (a.put o.dst (.slice (some ⟨g', 0, none⟩) (n + m) c')) w') : wpList P ops Q (o :: rest) a w := by
 cases ad with
 | none =>
  have hn0 : news = [] := by
   cases news with
   | nil => rfl
   | cons u r => obtain ⟨b, e', _⟩ := hnews 0 u rfl; cases e'
  subst hn0
  have hm : m = 0 := by
   have h' : m * size = 0 := by simpa using hl.symm
   rcases Nat.mul_eq_zero.1 h' with h' | h'
   ·exact h'
   ·omega
  subst hm
  refine wpList_plain hgd fun K hK => ?_
  have hrun : (Builtin.append_ #[t, t] o.type #[.slice (some ⟨g, 0, none⟩) n cap, .slice none 0 c]).run P w = .ok (.slice (some ⟨g, 0, none⟩) n cap) w := by
   rcases hown.2 with ⟨h0, _⟩ | ⟨g', cap', cur, h0, _, _, hnc, _⟩
   ·cases h0
   ·cases h0
    simp [Builtin.append_, run_underlying ht, sizeOf, typeInfo, hi, Builtin.lenOf, Builtin.firstCells, hnc, storeCells]
  unfold Oper.wp
  simp [execOp, ho, resolve, invoke, builtin, hs, hx, hrun, Result.andThen]
  exact hK _ _ (h g cap w (by simpa using hown) (World.grownBy.refl _ _) (.inl rfl))
 | some b =>
  have hcells : ∀ j u, news[j]? = some u -> w.cell? (b.add j) = some u := fun j u hj => by obtain ⟨b', e', h'⟩ := hnews j u hj; cases e'; exact h'
  by_cases hr : n + m <= cap
  ·exact wpList_append_fits w hgd s x t ho 0 e i size ht hi hsize g n cap xs hs hown b m c news hx hl hcells h1 hr (fun w' h2 h3 => h g cap w' h2 h3 (.inl rfl))
  ·have hnc : n <= cap := by
    rcases hown.2 with ⟨h0, _⟩ | ⟨g', cap', cur, h0, _, _, hnc, _⟩
    ·cases h0
    ·cases h0; exact hnc
   refine wpList_append_keeps hgd s x t ho 0 e i z size bytes ht hi hz hsize hby hzs hsz _ n xs hs hown b m c news hx hl hcells h1 (by omega) h63 hbytes (Nat.zero_le _) (fun g' c' w' h2 h3 h4 _ => h g' c' w' h2 h3 ?_)
   rcases h4 with h4 | h4
   ·simp [Value.ownBlock] at h4; exact .inl h4.symm
   ·exact .inr h4
set_option maxHeartbeats 1000000 in
set_option maxRecDepth 100000 in
theorem youngest_calls (X : Nat -> Prop) (T : Nat) (room : Int) (L : List TaskS) (t : TaskS) (w : World) (ht : TaskListAt X w T room (L ++ [t])) (hl : L.length <= 1000) : Calls Tryz.prog 128 #[.pointer (some ⟨T, 0, none⟩)] w fun e w' => e = .returned (.agg #[.string t.id, .int .i64 t.kind, .int .i64 t.arg]) /\ Below w.heap.size w w' := by
 obtain ⟨g, c, hb, -, -, hr⟩ := tasks_row ht
 obtain ⟨V, hV⟩ : ∃ V, w.alloc (Obj.cells #[.string ⟨#[]⟩, .int .i64 0, .int .i64 0] 76) = V := ⟨_, rfl⟩
 have hbV : Below w.heap.size w V := by rw [<- hV]; exact (Below.refl _ _).alloc (Nat.le_refl _) _
 have bZ : BoxAt V w.heap.size 76 #[.string ⟨#[]⟩, .int .i64 0, .int .i64 0] := by rw [<- hV]; exact BoxAt.new w _ _
 have hgl := (hr.lt g rfl).2
 have b0 := (hb.below hbV hb.lt).cell (o := 0) rfl
 have e0 : V.cell? ⟨g, L.length * 3, none⟩ = some (.string t.id) := (hbV.cell (p := ⟨g, L.length * 3, none⟩) hgl).trans (row_last hr 0 _ rfl)
 have e1 : V.cell? ⟨g, L.length * 3 + 1, none⟩ = some (.int .i64 t.kind) := (hbV.cell (p := ⟨g, L.length * 3 + 1, none⟩) hgl).trans (row_last hr 1 _ rfl)
 have e2 : V.cell? ⟨g, L.length * 3 + 2, none⟩ = some (.int .i64 t.arg) := (hbV.cell (p := ⟨g, L.length * 3 + 2, none⟩) hgl).trans (row_last hr 2 _ rfl)
 have z0 := bZ.cell (o := 0) rfl
 have z1 := bZ.cell (o := 1) rfl
 have z2 := bZ.cell (o := 2) rfl
 have f0 := bZ.frozen 0
 have f1 := bZ.frozen 1
 have f2 := bZ.frozen 2
 have hne : g ≠ w.heap.size := by omega
 have hneT : T ≠ w.heap.size := by have := hb.lt; omega
 have HBZ := hid_of bZ
 have HBV := hid_of hbV
 have j1 : (0 : Int) <= (L.length : Int) := by omega
 have j2 : (L.length : Int) < ((L.length + 1 : Nat) : Int) := by omega
 clear hb hr hbV bZ ht
 go_enter Tryz.func128, Tryz.ntmps128
 go_upto_region 1 with fail
 clear hV
 go_region
 all_goals
  go_wp2_with fail
  have hbz : BoxAt (((V.setCell ⟨w.heap.size, 0, none⟩ (.string t.id)).setCell ⟨w.heap.size, 1, none⟩ (.int .i64 t.kind)).setCell ⟨w.heap.size, 2, none⟩ (.int .i64 t.arg)).drew w.heap.size 76 #[.string t.id, .int .i64 t.kind, .int .i64 t.arg] := ((HBZ.out.setAt 0 _).setAt 1 _).setAt 2 _
  have r0 := hbz.cell (o := 0) rfl
  have r1 := hbz.cell (o := 1) rfl
  have r2 := hbz.cell (o := 2) rfl
  refine bodyPost_ret (v := .agg #[.string t.id, .int .i64 t.kind, .int .i64 t.arg]) (by simp [results, Tryz.results128, go_sem, r0, r1, r2]) rfl ⟨rfl, ?_⟩
  exact (((HBV.out.setCell (p := ⟨w.heap.size, 0, none⟩) (Nat.le_refl _) _).setCell (p := ⟨w.heap.size, 1, none⟩) (Nat.le_refl _) _).setCell (p := ⟨w.heap.size, 2, none⟩) (Nat.le_refl _) _).drew
set_option maxHeartbeats 2000000 in
set_option maxRecDepth 100000 in
theorem replace_calls (X : Nat -> Prop) (T : Nat) (room : Int) (L C : List TaskS) (t : TaskS) (gf : Nat) (lb : Array Value) (w : World) (ht : TaskListAt X w T room (L ++ [t])) (hl : L.length <= 100) (hc : C.length <= 100) (eg : ∀ args w, (callFunc gf args).run Tryz.prog w = .ok (.enter gf args) w)
  (hseq : ∀ (n : Nat) (X : Nat -> Prop) (U W : World), Below w.heap.size w U -> Below U.heap.size U W -> (∀ k, X k -> U.heap.size <= k) -> SeqY Fence.wide n Tryz.prog gf lb (fun c : TaskS => #[taskV c]) X C W) :
  Calls Tryz.prog 129 #[.pointer (some ⟨T, 0, none⟩), .func (.func gf) #[] lb] w fun e w' => e = .returned (.bool (!decide (room < (L.length : Int) + C.length))) /\ Kept X w w' /\ (if room < (L.length : Int) + C.length then Below w.heap.size w w' else TaskListAt (fun b => X b \/ w.heap.size <= b) w' T room (L ++ C)) := by
 obtain ⟨iT, hiT, hzT0, hzT1, hzT2⟩ := info_parts infoTask
 obtain ⟨g, c, hb, hXT, hXg, hr⟩ := tasks_row ht
 have b0 := hb.cell (o := 0) rfl
 have hri := row_init hr
 have HC : Hid (∀ U, Below w.heap.size w U -> Calls Tryz.prog 74 #[.func (.func gf) #[] lb] U fun e w' => ∃ v, e = .returned v /\ w'.ownsRow U.heap.size 76 3 v C.length (C.flatMap taskEnc) /\ Below U.heap.size U w') := fun U hU => collect_calls gf lb C U (by omega) eg (fun n X W hW hX => hseq n X U W hU hW hX)
 have HB := hid_of hb
 have HRI := hid_of hri
 have hgl := (hr.lt g rfl).2
 have hcap : L.length + 1 <= c := by
  rcases hr.2 with ⟨h0, _⟩ | ⟨g', cap', cur, h0, _, _, h1, _⟩
  ·cases h0
  ·cases h0; omega
 obtain ⟨n, hn⟩ : ∃ n, C.length = n := ⟨_, rfl⟩
 have HN : Hid (C.length = n) := hn
 rw [hn] at HC hc
 rw [hn]
 obtain ⟨bb, hbb⟩ : ∃ bb, decide (room < (L.length : Int) + n) = bb := ⟨_, rfl⟩
 have HBB : Hid (decide (room < (L.length : Int) + n) = bb) := hbb
 rw [hbb]
 have hXg' : X g := hXg
 clear hb hr hri ht hseq eg hn hbb
 have j3 : (L.length : Int) <= (c : Int) := by omega
 have j4 : L.length <= c := by omega
 have hwa : IntKind.i64.wrap ((L.length : Int) + (n : Int)) = (L.length : Int) + (n : Int) := IntWalk.i64_in _ (by omega)
 go_enter Tryz.func129, Tryz.ntmps129
 go_upto_region 1 with fail
 go_quiet (fail)
 go_upto_region 3 with (go_at_call 74; refine (HC.out _ (below_drewN (Below.refl _ _) _)).mono ?_; rintro e w2 ⟨v2, rfl, hrow2', hb2'⟩; obtain ⟨a2, c2, rfl⟩ := row_form hrow2')
 have hb2 : Below w.heap.size w w2 := (below_drewN (Below.refl _ _) nq).trans hb2'
 have hrow2 : w2.ownsRow w.heap.size 76 3 (.slice a2 n c2) n (C.flatMap taskEnc) := hrow2'
 have HB2 := hid_of (HB.out.below hb2 HB.out.lt)
 have HRI2 := hid_of (row_below HRI.out hb2 (fun g e => (HRI.out.lt g e).2))
 have HBW2 := hid_of hb2
 have s2 := hb2.size
 have HNC : Hid (∀ j u, (C.flatMap taskEnc)[j]? = some u -> ∃ b, a2 = some b /\ w2.cell? (b.add j) = some u) := fun j u hj => by
  obtain ⟨a9, c9, h9, hc9⟩ := row_slice hrow2
  cases h9
  obtain ⟨g, h1, h2, h3, h4⟩ := hc9 j u hj
  exact ⟨_, h1, by rw [addr_add]; exact h4⟩
 have HFC : Hid ((C.flatMap taskEnc).length = n * 3) := by show _ = _; rw [<- HN.out]; exact flat_length (sz := 3) (enc := taskEnc) (fun _ => rfl) _
 have x1 := HB2.out.cell (o := 1) rfl
 clear hb2 hrow2' hb2' hrow2 b0
 cases bb with
 | true =>
  have hlt : room < (L.length : Int) + (n : Int) := by have := HBB.out; simpa using this
  go_wp2_with fail
  go_ret
  exact ⟨rfl, Kept.of_below HBW2.out (fun b h1 h2 => by omega), by first | exact HBW2.out | (rw [if_pos hlt]; exact HBW2.out)⟩
 | false =>
  have hlt : ¬ room < (L.length : Int) + (n : Int) := by have := HBB.out; simpa using this
  have HTg : Hid ((Value.slice (some ⟨g, 0, none⟩) L.length c).ownBlock ≠ some T) := row_ne HRI2.out HB2.out (by decide)
  go_wp2_with (at_builtin; refine wpList_append_where rfl _ _ _ rfl 76 iT _ 3 32 Tryz.underlying52 hiT hzT0 hzT1 hzT2 rfl (by omega) g c L.length (L.flatMap taskEnc) rfl HRI2.out a2 n c2 (C.flatMap taskEnc) rfl HFC.out HNC.out (flat_one taskEnc_one _) (by unfold maxLen; omega) (by omega) ?_; intro g3 c3 w3 hown3 hgrow3 hat3; have hb3 : BoxAt w3 T 179 #[.slice (some ⟨g, 0, none⟩) (L.length + 1) c, .int .i64 room] := (hgrow3.block T HB2.out.lt (fun e => HTg.out e.symm)).trans HB2.out; have y0 := hb3.cell (o := 0) rfl; have f0 := hb3.frozen 0)
  go_ret
  have k23 : Kept (fun b => b = g) w2 w3 := Kept.grown hgrow3 (fun r e => by cases e; rfl)
  have k34 : Kept (· = T) w3 (w3.setCell ⟨T, 0, none⟩ (.slice (some ⟨g3, 0, none⟩) (L.length + n) c3)) := (Kept.refl _ _).setCell (.inl (by rfl)) _
  have kk : Kept X w (w3.setCell ⟨T, 0, none⟩ (.slice (some ⟨g3, 0, none⟩) (L.length + n) c3)) := ((Kept.of_below HBW2.out (X := X) (fun b h1 h2 => by omega)).andThen k23 (fun b _ h => by subst h; exact hXg')).andThen k34 (fun b _ h => by subst h; exact hXT)
  have hfin : (w3.setCell ⟨T, 0, none⟩ (.slice (some ⟨g3, 0, none⟩) (L.length + n) c3)).ownsRow 0 76 3 (.slice (some ⟨g3, 0, none⟩) (L.length + n) c3) (L.length + n) (L.flatMap taskEnc ++ C.flatMap taskEnc) := row_kept hown3 k34 (fun g e h => by subst h; exact row_ne hown3 hb3 (by decide) e) (Nat.le_refl _)
  have hTL : TaskListAt (fun b => X b \/ w.heap.size <= b) (w3.setCell ⟨T, 0, none⟩ (.slice (some ⟨g3, 0, none⟩) (L.length + n) c3)) T room (L ++ C) := by
   refine ⟨_, hb3.setAt 0 _, .inl hXT, ?_, fun g' e => ?_⟩
   ·rw [List.length_append, List.flatMap_append, HN.out]; exact hfin
   ·simp [Value.ownBlock] at e
    subst e
    rcases hat3 with h | h
    ·rw [h]; exact .inl hXg'
    ·exact .inr (by omega)
  refine ⟨rfl, kk, ?_⟩
  first | exact hTL | (rw [if_neg hlt]; exact hTL)
theorem row_behind {base t sz g n cap : Nat} {xs : List Value} : ∀ (vs : List Value) (o : Nat) (W : World), W.ownsRow base t sz (.slice (some ⟨g, 0, none⟩) n cap) n xs -> n * sz <= o -> (W.setCells g o vs).ownsRow base t sz (.slice (some ⟨g, 0, none⟩) n cap) n xs /\ Kept (· = g) W (W.setCells g o vs)
 | [], o, W, h, _ => ⟨h, Kept.refl _ _⟩
 | v :: r, o, W, h, ho => by
  have h1 : (W.setCell ⟨g, o, none⟩ v).ownsRow base t sz (.slice (some ⟨g, 0, none⟩) n cap) n xs := by
   obtain ⟨hl, h2⟩ := h
   rcases h2 with ⟨h0, _⟩ | ⟨g', cap', cur, h0, hb, hcur, hnc, hcm, hcs, htk⟩
   ·cases h0
   ·cases h0
    have hbx : BoxAt W g t cur := hcur
    refine ⟨hl, .inr ⟨g, cap, cur.setIfInBounds o v, rfl, hb, hbx.setAt o v, hnc, hcm, by simpa using hcs, ?_⟩⟩
    rw [Array.toList_setIfInBounds, List.take_set_of_le ho]
    exact htk
  obtain ⟨h2, h3⟩ := row_behind r (o + 1) _ h1 (by omega)
  exact ⟨h2, ((Kept.refl (· = g) W).setCell (.inl (by rfl)) v).trans h3⟩
theorem row_take {base t sz g n cap k : Nat} {W : World} {xs ys : List Value} (h : W.ownsRow base t sz (.slice (some ⟨g, 0, none⟩) n cap) n (xs ++ ys)) (hk : k <= n) (hx : xs.length = k * sz) : W.ownsRow base t sz (.slice (some ⟨g, 0, none⟩) k cap) k xs := by
 obtain ⟨hl, h2⟩ := h
 rcases h2 with ⟨h0, _⟩ | ⟨g', cap', cur, h0, hb, hcur, hnc, hcm, hcs, htk⟩
 ·cases h0
 ·cases h0
  refine ⟨hx, .inr ⟨g, cap, cur, rfl, hb, hcur, by omega, hcm, hcs, ?_⟩⟩
  have h1 := congrArg (List.take (k * sz)) htk
  rw [List.take_take, Nat.min_eq_left (Nat.mul_le_mul_right sz hk), <- hx, List.take_left' rfl, hx] at h1
  exact h1
theorem zeroMessage (w : World) : (zeroValue 140).run Tryz.prog w = .ok (.agg (msgCells msg0)) w := by
 have hi := infoMessage
 cases h : Tryz.prog.info? 140 with
 | none => rw [h] at hi; cases hi
 | some i =>
  rw [h] at hi
  simp at hi
  simp [zeroValue, typeInfo, h, hi.1, msg0]
theorem run_clear_one (w : World) (ty : TypeId) (g o c : Nat) (hc : ∀ j, j < 15 -> (w.cell? ⟨g, o + j, none⟩).isSome = true) (hf : ∀ j, j < 15 -> w.frozen? ⟨g, o + j, none⟩ = false) :
  (Builtin.clear_ #[125] ty #[.slice (some ⟨g, o, none⟩) 1 c]).run Tryz.prog w = .ok (.tuple #[]) (w.setCells g o (msgEnc msg0)) := by
 have hst := run_storeCells_cells (P := Tryz.prog) g o (msgEnc msg0) 0 w (by simpa [msgEnc] using hc) (by simpa [msgEnc] using hf) (by intro v hv; exact msgEnc_one msg0 v hv)
 simp only [Nat.add_zero] at hst
 have hz : (Builtin.zeroCells (Value.agg (msgCells msg0)).cells 1).toList = msgEnc msg0 := by kernel_rfl
 simp only [msg0] at hz hst ⊢
 simp [Builtin.clear_, run_underlying Tryz.underlying125, hz, hst]
set_option maxHeartbeats 4000000 in
set_option maxRecDepth 100000 in
theorem delete_calls (g cap k : Nat) (l : List MsgS) (m : MsgS) (w : World) (h : w.ownsRow 0 140 15 (.slice (some ⟨g, 0, none⟩) l.length cap) l.length (l.flatMap msgEnc)) (hk : l[k]? = some m) (hl : l.length <= 1000) :
  Calls Tryz.prog 160 #[.slice (some ⟨g, 0, none⟩) l.length cap, .int .i64 (k : Int), .int .i64 ((k : Int) + 1)] w fun e w' => ∃ v, e = .returned v /\ (v = .slice (some ⟨g, 0, none⟩) (l.length - 1) cap /\ w'.ownsRow 0 140 15 (.slice (some ⟨g, 0, none⟩) (l.length - 1) cap) (l.length - 1) ((l.take k ++ l.drop (k + 1)).flatMap msgEnc) /\ Kept (· = g) w w') := by
 obtain ⟨iM, hiM, hzM0, hzM1, hzM2⟩ := info_parts infoMessage
 have hkl := (List.getElem?_eq_some_iff.1 hk).1
 obtain ⟨n, hn⟩ : ∃ n, l.length = n := ⟨_, rfl⟩
 have hcap : n <= cap := by
  rcases h.2 with ⟨h0, _⟩ | ⟨g', cap', cur, h0, _, _, h1, _⟩
  ·cases h0
  ·cases h0; omega
 have HT1 : Hid (((l.take k).flatMap msgEnc).length = k * 15) := by show _ = _; rw [flat_length (sz := 15) (enc := msgEnc) (fun _ => rfl), List.length_take, Nat.min_eq_left (by omega)]
 have HT2 : Hid (((l.drop (k + 1)).flatMap msgEnc).length = (n - (k + 1)) * 15) := by show _ = _; rw [flat_length (sz := 15) (enc := msgEnc) (fun _ => rfl), List.length_drop, hn]
 have HSP : Hid (l.flatMap msgEnc = (l.take k).flatMap msgEnc ++ (msgEnc m ++ (l.drop (k + 1)).flatMap msgEnc)) := by
  show _ = _
  rw [<- List.flatMap_cons, <- List.flatMap_append]
  congr 1
  rw [List.getElem?_eq_some_iff] at hk
  obtain ⟨h1, rfl⟩ := hk
  rw [<- List.drop_eq_getElem_cons h1, List.take_append_drop]
 have HROW := hid_of h
 have HCY : Hid (∀ j u, (l.flatMap msgEnc)[j]? = some u -> w.cell? ⟨g, j, none⟩ = some u) := fun j u hj => by
  have := h.cells (g := g) rfl j u hj
  rwa [addr_add] at this
 have HPRE : Hid (∀ U, Kept (fun _ => False) w U -> U.ownsRow 0 140 15 (.slice (some ⟨g, 0, none⟩) k cap) k ((l.take k).flatMap msgEnc)) := fun U hU => by
  refine row_kept ?_ hU (fun _ _ h => h) (Nat.le_refl _)
  have h' := h
  rw [HSP.out] at h'
  exact row_take h' (by omega) HT1.out
 have HN2 : Hid (∀ j u, ((l.drop (k + 1)).flatMap msgEnc)[j]? = some u -> w.cell? ⟨g, (k + 1) * 15 + j, none⟩ = some u) := fun j u hj => by
  refine HCY.out ((k + 1) * 15 + j) u ?_
  rw [HSP.out, List.getElem?_append_right (by rw [HT1.out]; omega), HT1.out, List.getElem?_append_right (by show 15 <= _; omega)]
  have e : (k + 1) * 15 + j - k * 15 - (msgEnc m).length = j := by show _ - 15 = _; omega
  rw [e]
  exact hj
 have HLN : Hid (l.length = n) := hn
 rw [hn] at h hkl hl ⊢
 have HRN : Hid (w.ownsRow 0 140 15 (.slice (some ⟨g, 0, none⟩) n cap) n (l.flatMap msgEnc)) := h
 have hgl := (h.lt g rfl).2
 have i0 : (0 : Int) <= (k : Int) := by omega
 have i1 : (0 : Int) <= (k : Int) + 1 := by omega
 have i2 : (k : Int) <= (k : Int) + 1 := by omega
 have i3 : (k : Int) + 1 <= (n : Int) := by omega
 have i4 : (n : Int) <= (cap : Int) := by omega
 have i5 : (k : Int) <= (cap : Int) := by omega
 have i6 : ((k : Int) == (k : Int) + 1) = false := by rw [beq_eq_false_iff_ne]; omega
 obtain ⟨p, rfl⟩ : ∃ p, n = p + 1 := ⟨n - 1, by omega⟩
 rw [show p + 1 - 1 = p from rfl]
 clear h hk hn HROW
 go_enter Tryz.func160, Tryz.ntmps160
 go_upto_region 5 with fail
 have hpk : p + 1 - (k + 1) = p - k := by omega
 rw [hpk] at HT2
 have HFIT : Hid (k + (p - k) <= cap) := by show _ <= _; omega
 have HPK : Hid (k + (p - k) = p) := by show _ = _; omega
 have hkw : Kept (fun _ => False) w w.drew := (Kept.refl _ _).drew
 have HPR := hid_of (HPRE.out w.drew hkw)
 have q1 : p + 1 - (k + 1) = p - k := hpk
 have q2 : (k : Int) <= (p : Int) := by omega
 have q3 : k <= p := by omega
 have q4 : (p : Int) + 1 <= (cap : Int) := by omega
 have q5 : (k : Int) + 1 <= (p : Int) + 1 := by omega
 go_cut [0] from 8 to 26 (fun v2 w2 => v2 = .slice (some ⟨g, 0, none⟩) (k + (p - k)) cap /\ w2.ownsRow 0 140 15 (.slice (some ⟨g, 0, none⟩) (k + (p - k)) cap) (k + (p - k)) ((l.take k).flatMap msgEnc ++ (l.drop (k + 1)).flatMap msgEnc) /\ Kept (· = g) w w2)
 case first =>
  by_cases hyc : cap = k + 1
  ·have HD : Hid ((l.drop (k + 1)).flatMap msgEnc = []) := by show _ = _; rw [List.drop_eq_nil_of_le (by have := HLN.out; omega)]; rfl
   obtain rfl : p = k := by omega
   subst hyc
   have q6 : p + 1 - (p + 1) = 0 := by omega
   have q7 : p - p = 0 := by omega
   go_still_tail 6, (by kernel_rfl)
   go_wp2_with (at_builtin; refine wpList_append_fits w.drew rfl _ _ _ rfl 0 140 iM 15 Tryz.underlying125 hiM hzM1 g p (p + 1) ((l.take p).flatMap msgEnc) rfl HPR.out ⟨g, 0, none⟩ 0 0 [] rfl rfl (fun j u hj => by simp at hj) (fun u hu => by simp at hu) (by omega) ?_; intro w2 hown2 hgrow2)
   go_meet
   case rel =>
    refine ⟨by first | rfl | (rw [HPK.out]), ?_, (Kept.refl _ _).drew.trans (Kept.grown hgrow2 (fun r e => by cases e; rfl))⟩
    rw [HD.out]
    simpa using hown2
  ·have hy1 : ¬ cap - (k + 1) = 0 := by omega
   have hy2 : k + 1 < cap := by omega
   have hy3 : (k : Int) + 1 < (cap : Int) := by omega
   have HN3 : Hid (∀ j u, ((l.drop (k + 1)).flatMap msgEnc)[j]? = some u -> w.drew.cell? ((⟨g, (k + 1) * 15, none⟩ : Addr).add j) = some u) := fun j u hj => by
    have e : (⟨g, (k + 1) * 15, none⟩ : Addr).add j = ⟨g, (k + 1) * 15 + j, none⟩ := by unfold Addr.add; split <;> simp_all
    rw [e]
    exact HN2.out j u hj
   go_still_tail 6, (by kernel_rfl)
   go_wp2_with (at_builtin; refine wpList_append_fits w.drew rfl _ _ _ rfl 0 140 iM 15 Tryz.underlying125 hiM hzM1 g k cap ((l.take k).flatMap msgEnc) rfl HPR.out ⟨g, (k + 1) * 15, none⟩ (p - k) (cap - (k + 1)) ((l.drop (k + 1)).flatMap msgEnc) rfl HT2.out HN3.out (flat_one msgEnc_one _) HFIT.out ?_; intro w2 hown2 hgrow2)
   go_meet
   case rel => exact ⟨by first | rfl | (rw [HPK.out]), hown2, (Kept.refl _ _).drew.trans (Kept.grown hgrow2 (fun r e => by cases e; rfl))⟩
 case rest =>
  obtain ⟨rfl, hown2, hk2⟩ := hcut
  rename World => w2
  rw [HPK.out] at hown2 ⊢
  have hcells : ∀ j, j < 15 -> (w2.cell? ⟨g, p * 15 + j, none⟩).isSome = true /\ w2.frozen? ⟨g, p * 15 + j, none⟩ = false := fun j hj => by
   obtain ⟨hx, h2⟩ := hown2
   rcases h2 with ⟨h0, _⟩ | ⟨g', cap', cur, h0, hb, hcur, hnc, hcm, hcs, htk⟩
   ·cases h0
   ·cases h0
    have hbx : BoxAt w2 g 140 cur := hcur
    obtain ⟨v, hv⟩ := get_some (cs := cur) (i := p * 15 + j) (by rw [hcs]; omega)
    exact ⟨by rw [hbx.cell hv]; rfl, hbx.frozen _⟩
  obtain ⟨w3, hw3⟩ : ∃ w3, w2.setCells g (p * 15) (msgEnc msg0) = w3 := ⟨_, rfl⟩
  have hclr : ∀ ty, (Builtin.clear_ #[125] ty #[.slice (some ⟨g, p * 15, none⟩) 1 (cap - p)]).run Tryz.prog w2 = .ok (.tuple #[]) w3 := fun ty => by
   rw [<- hw3]
   exact run_clear_one w2 ty g (p * 15) (cap - p) (fun j hj => (hcells j hj).1) (fun j hj => (hcells j hj).2)
  obtain ⟨hown3, hk3⟩ := row_behind (msgEnc msg0) (p * 15) w2 hown2 (Nat.le_refl _)
  rw [hw3] at hown3 hk3
  have HO3 := hid_of hown3
  have HK3 : Hid (Kept (· = g) w w3) := hk2.trans hk3
  have e0 : (0 : Int) <= (p : Int) := by omega
  have e1 : (p : Int) <= ((p + 1 : Nat) : Int) := by omega
  have e2 : ((p + 1 : Nat) : Int) <= (cap : Int) := by omega
  have e3 : ¬ cap - p = 0 := by omega
  have e4 : p < cap := by omega
  have e5 : (p : Int) < (cap : Int) := by omega
  have e6 : p + 1 - p = 1 := by omega
  clear hown2 hk2 hown3 hk3 hcells hw3 HCY HN2 HPRE HPR HRN HT1 HT2 HSP HFIT
  go_wp2_with fail
  go_ret
  refine ⟨_, rfl, rfl, ?_, HK3.out⟩
  rw [List.flatMap_append]
  exact HO3.out
def task0 : TaskS := ⟨⟨#[]⟩, 0, 0⟩
theorem run_clear_oneT (w : World) (ty : TypeId) (g o c : Nat) (hc : ∀ j, j < 3 -> (w.cell? ⟨g, o + j, none⟩).isSome = true) (hf : ∀ j, j < 3 -> w.frozen? ⟨g, o + j, none⟩ = false) :
  (Builtin.clear_ #[52] ty #[.slice (some ⟨g, o, none⟩) 1 c]).run Tryz.prog w = .ok (.tuple #[]) (w.setCells g o (taskEnc task0)) := by
 have hst := run_storeCells_cells (P := Tryz.prog) g o (taskEnc task0) 0 w (by simpa [taskEnc] using hc) (by simpa [taskEnc] using hf) (by intro v hv; exact taskEnc_one task0 v hv)
 simp only [Nat.add_zero] at hst
 have hz : (Builtin.zeroCells (Value.agg #[.string ⟨#[]⟩, .int .i64 0, .int .i64 0]).cells 1).toList = taskEnc task0 := by kernel_rfl
 simp only [task0] at hz hst ⊢
 simp [Builtin.clear_, run_underlying Tryz.underlying52, hz, hst]
set_option maxHeartbeats 4000000 in
set_option maxRecDepth 100000 in
theorem deleteT_calls (g cap k : Nat) (l : List TaskS) (m : TaskS) (w : World) (h : w.ownsRow 0 76 3 (.slice (some ⟨g, 0, none⟩) l.length cap) l.length (l.flatMap taskEnc)) (hk : l[k]? = some m) (hl : l.length <= 2000000) :
  Calls Tryz.prog 204 #[.slice (some ⟨g, 0, none⟩) l.length cap, .int .i64 (k : Int), .int .i64 ((k : Int) + 1)] w fun e w' => ∃ v, e = .returned v /\ (v = .slice (some ⟨g, 0, none⟩) (l.length - 1) cap /\ w'.ownsRow 0 76 3 (.slice (some ⟨g, 0, none⟩) (l.length - 1) cap) (l.length - 1) ((l.take k ++ l.drop (k + 1)).flatMap taskEnc) /\ Kept (· = g) w w') := by
 obtain ⟨iM, hiM, hzM0, hzM1, hzM2⟩ := info_parts infoTask
 have hkl := (List.getElem?_eq_some_iff.1 hk).1
 obtain ⟨n, hn⟩ : ∃ n, l.length = n := ⟨_, rfl⟩
 have hcap : n <= cap := by
  rcases h.2 with ⟨h0, _⟩ | ⟨g', cap', cur, h0, _, _, h1, _⟩
  ·cases h0
  ·cases h0; omega
 have HT1 : Hid (((l.take k).flatMap taskEnc).length = k * 3) := by show _ = _; rw [flat_length (sz := 3) (enc := taskEnc) (fun _ => rfl), List.length_take, Nat.min_eq_left (by omega)]
 have HT2 : Hid (((l.drop (k + 1)).flatMap taskEnc).length = (n - (k + 1)) * 3) := by show _ = _; rw [flat_length (sz := 3) (enc := taskEnc) (fun _ => rfl), List.length_drop, hn]
 have HSP : Hid (l.flatMap taskEnc = (l.take k).flatMap taskEnc ++ (taskEnc m ++ (l.drop (k + 1)).flatMap taskEnc)) := by
  show _ = _
  rw [<- List.flatMap_cons, <- List.flatMap_append]
  congr 1
  rw [List.getElem?_eq_some_iff] at hk
  obtain ⟨h1, rfl⟩ := hk
  rw [<- List.drop_eq_getElem_cons h1, List.take_append_drop]
 have HROW := hid_of h
 have HCY : Hid (∀ j u, (l.flatMap taskEnc)[j]? = some u -> w.cell? ⟨g, j, none⟩ = some u) := fun j u hj => by
  have := h.cells (g := g) rfl j u hj
  rwa [addr_add] at this
 have HPRE : Hid (∀ U, Kept (fun _ => False) w U -> U.ownsRow 0 76 3 (.slice (some ⟨g, 0, none⟩) k cap) k ((l.take k).flatMap taskEnc)) := fun U hU => by
  refine row_kept ?_ hU (fun _ _ h => h) (Nat.le_refl _)
  have h' := h
  rw [HSP.out] at h'
  exact row_take h' (by omega) HT1.out
 have HN2 : Hid (∀ j u, ((l.drop (k + 1)).flatMap taskEnc)[j]? = some u -> w.cell? ⟨g, (k + 1) * 3 + j, none⟩ = some u) := fun j u hj => by
  refine HCY.out ((k + 1) * 3 + j) u ?_
  rw [HSP.out, List.getElem?_append_right (by rw [HT1.out]; omega), HT1.out, List.getElem?_append_right (by show 3 <= _; omega)]
  have e : (k + 1) * 3 + j - k * 3 - (taskEnc m).length = j := by show _ - 3 = _; omega
  rw [e]
  exact hj
 have HLN : Hid (l.length = n) := hn
 rw [hn] at h hkl hl ⊢
 have HRN : Hid (w.ownsRow 0 76 3 (.slice (some ⟨g, 0, none⟩) n cap) n (l.flatMap taskEnc)) := h
 have hgl := (h.lt g rfl).2
 have i0 : (0 : Int) <= (k : Int) := by omega
 have i1 : (0 : Int) <= (k : Int) + 1 := by omega
 have i2 : (k : Int) <= (k : Int) + 1 := by omega
 have i3 : (k : Int) + 1 <= (n : Int) := by omega
 have i4 : (n : Int) <= (cap : Int) := by omega
 have i5 : (k : Int) <= (cap : Int) := by omega
 have i6 : ((k : Int) == (k : Int) + 1) = false := by rw [beq_eq_false_iff_ne]; omega
 obtain ⟨p, rfl⟩ : ∃ p, n = p + 1 := ⟨n - 1, by omega⟩
 rw [show p + 1 - 1 = p from rfl]
 clear h hk hn HROW
 go_enter Tryz.func204, Tryz.ntmps204
 go_upto_region 5 with fail
 have hpk : p + 1 - (k + 1) = p - k := by omega
 rw [hpk] at HT2
 have HFIT : Hid (k + (p - k) <= cap) := by show _ <= _; omega
 have HPK : Hid (k + (p - k) = p) := by show _ = _; omega
 have hkw : Kept (fun _ => False) w w.drew := (Kept.refl _ _).drew
 have HPR := hid_of (HPRE.out w.drew hkw)
 have q1 : p + 1 - (k + 1) = p - k := hpk
 have q2 : (k : Int) <= (p : Int) := by omega
 have q3 : k <= p := by omega
 have q4 : (p : Int) + 1 <= (cap : Int) := by omega
 have q5 : (k : Int) + 1 <= (p : Int) + 1 := by omega
 go_cut [0] from 8 to 26 (fun v2 w2 => v2 = .slice (some ⟨g, 0, none⟩) (k + (p - k)) cap /\ w2.ownsRow 0 76 3 (.slice (some ⟨g, 0, none⟩) (k + (p - k)) cap) (k + (p - k)) ((l.take k).flatMap taskEnc ++ (l.drop (k + 1)).flatMap taskEnc) /\ Kept (· = g) w w2)
 case first =>
  by_cases hyc : cap = k + 1
  ·have HD : Hid ((l.drop (k + 1)).flatMap taskEnc = []) := by show _ = _; rw [List.drop_eq_nil_of_le (by have := HLN.out; omega)]; rfl
   obtain rfl : p = k := by omega
   subst hyc
   have q6 : p + 1 - (p + 1) = 0 := by omega
   have q7 : p - p = 0 := by omega
   go_still_tail 6, (by kernel_rfl)
   go_wp2_with (at_builtin; refine wpList_append_fits w.drew rfl _ _ _ rfl 0 76 iM 3 Tryz.underlying52 hiM hzM1 g p (p + 1) ((l.take p).flatMap taskEnc) rfl HPR.out ⟨g, 0, none⟩ 0 0 [] rfl rfl (fun j u hj => by simp at hj) (fun u hu => by simp at hu) (by omega) ?_; intro w2 hown2 hgrow2)
   go_meet
   case rel =>
    refine ⟨by first | rfl | (rw [HPK.out]), ?_, (Kept.refl _ _).drew.trans (Kept.grown hgrow2 (fun r e => by cases e; rfl))⟩
    rw [HD.out]
    simpa using hown2
  ·have hy1 : ¬ cap - (k + 1) = 0 := by omega
   have hy2 : k + 1 < cap := by omega
   have hy3 : (k : Int) + 1 < (cap : Int) := by omega
   have HN3 : Hid (∀ j u, ((l.drop (k + 1)).flatMap taskEnc)[j]? = some u -> w.drew.cell? ((⟨g, (k + 1) * 3, none⟩ : Addr).add j) = some u) := fun j u hj => by
    have e : (⟨g, (k + 1) * 3, none⟩ : Addr).add j = ⟨g, (k + 1) * 3 + j, none⟩ := by unfold Addr.add; split <;> simp_all
    rw [e]
    exact HN2.out j u hj
   go_still_tail 6, (by kernel_rfl)
   go_wp2_with (at_builtin; refine wpList_append_fits w.drew rfl _ _ _ rfl 0 76 iM 3 Tryz.underlying52 hiM hzM1 g k cap ((l.take k).flatMap taskEnc) rfl HPR.out ⟨g, (k + 1) * 3, none⟩ (p - k) (cap - (k + 1)) ((l.drop (k + 1)).flatMap taskEnc) rfl HT2.out HN3.out (flat_one taskEnc_one _) HFIT.out ?_; intro w2 hown2 hgrow2)
   go_meet
   case rel => exact ⟨by first | rfl | (rw [HPK.out]), hown2, (Kept.refl _ _).drew.trans (Kept.grown hgrow2 (fun r e => by cases e; rfl))⟩
 case rest =>
  obtain ⟨rfl, hown2, hk2⟩ := hcut
  rename World => w2
  rw [HPK.out] at hown2 ⊢
  have hcells : ∀ j, j < 3 -> (w2.cell? ⟨g, p * 3 + j, none⟩).isSome = true /\ w2.frozen? ⟨g, p * 3 + j, none⟩ = false := fun j hj => by
   obtain ⟨hx, h2⟩ := hown2
   rcases h2 with ⟨h0, _⟩ | ⟨g', cap', cur, h0, hb, hcur, hnc, hcm, hcs, htk⟩
   ·cases h0
   ·cases h0
    have hbx : BoxAt w2 g 76 cur := hcur
    obtain ⟨v, hv⟩ := get_some (cs := cur) (i := p * 3 + j) (by rw [hcs]; omega)
    exact ⟨by rw [hbx.cell hv]; rfl, hbx.frozen _⟩
  obtain ⟨w3, hw3⟩ : ∃ w3, w2.setCells g (p * 3) (taskEnc task0) = w3 := ⟨_, rfl⟩
  have hclr : ∀ ty, (Builtin.clear_ #[52] ty #[.slice (some ⟨g, p * 3, none⟩) 1 (cap - p)]).run Tryz.prog w2 = .ok (.tuple #[]) w3 := fun ty => by
   rw [<- hw3]
   exact run_clear_oneT w2 ty g (p * 3) (cap - p) (fun j hj => (hcells j hj).1) (fun j hj => (hcells j hj).2)
  obtain ⟨hown3, hk3⟩ := row_behind (taskEnc task0) (p * 3) w2 hown2 (Nat.le_refl _)
  rw [hw3] at hown3 hk3
  have HO3 := hid_of hown3
  have HK3 : Hid (Kept (· = g) w w3) := hk2.trans hk3
  have e0 : (0 : Int) <= (p : Int) := by omega
  have e1 : (p : Int) <= ((p + 1 : Nat) : Int) := by omega
  have e2 : ((p + 1 : Nat) : Int) <= (cap : Int) := by omega
  have e3 : ¬ cap - p = 0 := by omega
  have e4 : p < cap := by omega
  have e5 : (p : Int) < (cap : Int) := by omega
  have e6 : p + 1 - p = 1 := by omega
  clear hown2 hk2 hown3 hk3 hcells hw3 HCY HN2 HPRE HPR HRN HT1 HT2 HSP HFIT
  go_wp2_with fail
  go_ret
  refine ⟨_, rfl, rfl, ?_, HK3.out⟩
  rw [List.flatMap_append]
  exact HO3.out
theorem cell_add {W : World} {g o : Nat} {u : Value} (j : Nat) (h : W.cell? ⟨g, o + j, none⟩ = some u) : W.cell? ((⟨g, o, none⟩ : Addr).add j) = some u := by
 have e : (⟨g, o, none⟩ : Addr).add j = ⟨g, o + j, none⟩ := by unfold Addr.add; split <;> simp_all
 rw [e]; exact h
set_option maxHeartbeats 2000000 in
set_option maxRecDepth 100000 in
theorem tasksPut_calls (X : Nat -> Prop) (T : Nat) (room : Int) (l : List TaskS) (t : TaskS) (b : Nat) (w : World) (h : TaskListAt X w T room l) (hl : l.length <= 1000000) (hb : BoxAt w b 76 #[.string t.id, .int .i64 t.kind, .int .i64 t.arg]) :
  Calls Tryz.prog 176 #[.pointer (some ⟨T, 0, none⟩), .slice (some ⟨b, 0, none⟩) 1 1] w fun e w' => ∃ v, e = .returned v /\ (v = .tuple #[] /\ TaskListAt (fun g => X g /\ g < w.heap.size \/ w.heap.size <= g) w' T room (l ++ [t]) /\ Kept X w w') := by
 obtain ⟨iT, hiT, hzT0, hzT1, hzT2⟩ := info_parts infoTask
 obtain ⟨tv, h1, h2, h3⟩ := h
 obtain ⟨a, c, hf⟩ := row_form h3.1
 subst hf
 have y0 := h1.cell (o := 0) rfl
 have f0 := h1.frozen 0
 have HB1 := hid_of h1
 have HR := hid_of h3.1
 have HX := hid_of h3.2
 have hTl := h1.lt
 have HNE : Hid ((Value.slice a l.length c).ownBlock ≠ some T) := row_ne h3.1 h1 (by decide)
 have HNW : Hid (∀ j u, (taskEnc t)[j]? = some u -> w.cell? ((⟨b, 0, none⟩ : Addr).add j) = some u) := fun j u hj => by
  refine cell_add j ?_
  rw [Nat.zero_add]
  exact hb.cell (o := j) (by simpa [taskEnc] using hj)
 clear h1 h3 hb
 go_enter Tryz.func176, Tryz.ntmps176
 go_wp2_with (at_builtin; refine wpList_append_lies _ rfl _ _ _ rfl 0 76 iT _ 3 32 Tryz.underlying52 hiT hzT0 hzT1 hzT2 rfl (by omega) (.slice a l.length c) l.length (l.flatMap taskEnc) rfl (by first | exact HR.out | exact HR.out.drew) ⟨b, 0, none⟩ 1 1 (taskEnc t) rfl rfl (by first | exact HNW.out) (taskEnc_one t) (by omega) (by unfold maxLen; omega) (by omega) (Nat.zero_le _) w.heap.size rfl ?_; intro g3 c3 w3 hown3 hgrow3 hat3 hlt3; have hb3 : BoxAt w3 T 179 #[.slice a l.length c, .int .i64 room] := HB1.out.kept (Kept.grown hgrow3 (X := fun k => (Value.slice a l.length c).ownBlock = some k) (fun r e => e)) HNE.out; have y3 := hb3.cell (o := 0) rfl; have f3 := hb3.frozen 0)
 go_end0
 have kg : Kept (fun k => (Value.slice a l.length c).ownBlock = some k) w w3 := Kept.grown hgrow3 (fun r e => e)
 have ks : Kept (· = T) w3 (w3.setCell ⟨T, 0, none⟩ (.slice (some ⟨g3, 0, none⟩) (l.length + 1) c3)) := (Kept.refl _ _).setCell (.inl (by rfl)) _
 have hgT : g3 ≠ T := fun e => by
  subst e
  rcases hat3 with e | e
  ·exact HNE.out e
  ·omega
 refine ⟨_, rfl, rfl, ⟨_, hb3.setAt 0 _, .inl ⟨h2, hTl⟩, ?_, fun g e => ?_⟩, ?_⟩
 ·rw [List.flatMap_append, List.length_append, List.length_singleton]
  have e1 : [t].flatMap taskEnc = taskEnc t := by simp
  rw [e1]
  exact row_kept hown3 ks (fun g e h => by simp [Value.ownBlock] at e; omega) (Nat.le_refl _)
 ·obtain rfl : g3 = g := by simpa [Value.ownBlock] using e
  rcases hat3 with e | e
  ·exact .inl ⟨HX.out g3 e, (HR.out.lt g3 e).2⟩
  ·exact .inr (by omega)
 ·exact (kg.mono (fun b _ e => HX.out b e)).trans (ks.mono (fun b _ e => by subst e; exact h2))
set_option maxHeartbeats 2000000 in
set_option maxRecDepth 100000 in
theorem takeOldest_calls (X : Nat -> Prop) (T : Nat) (room : Int) (t : TaskS) (r : List TaskS) (w : World) (h : TaskListAt X w T room (t :: r)) (hl : r.length <= 1900000) :
  Calls Tryz.prog 193 #[.pointer (some ⟨T, 0, none⟩)] w fun e w' => ∃ v, e = .returned v /\ (v = .agg #[.string t.id, .int .i64 t.kind, .int .i64 t.arg] /\ TaskListAt (fun g => X g /\ g < w.heap.size) w' T room r /\ Kept X w w') := by
 obtain ⟨tv, h1, h2, h3⟩ := h
 obtain ⟨g, c, hf, -, hgl⟩ := World.ownsRow.form h3.1 (by simp)
 subst hf
 have hpg : X g := h3.2 g rfl
 have hTl := h1.lt
 have hgT : g ≠ T := fun e => (row_ne h3.1 h1 (by decide)) (by rw [e]; rfl)
 obtain ⟨V, hV⟩ : ∃ V, w.alloc (Obj.cells #[.string ⟨#[]⟩, .int .i64 0, .int .i64 0] 76) = V := ⟨_, rfl⟩
 have gV : Below w.heap.size w V := by rw [<- hV]; exact (Below.refl _ _).alloc (Nat.le_refl _) _
 have sV : V.heap.size = w.heap.size + 1 := by rw [<- hV]; simp
 have rV : BoxAt V w.heap.size 76 #[.string ⟨#[]⟩, .int .i64 0, .int .i64 0] := by rw [<- hV]; exact BoxAt.new w _ _
 obtain ⟨Z, hZ⟩ : ∃ Z, V.alloc (Obj.cells #[.string t.id, .int .i64 t.kind, .int .i64 t.arg] 76) = Z := ⟨_, rfl⟩
 have gVZ : Below V.heap.size V Z := by rw [<- hZ]; exact (Below.refl _ _).alloc (Nat.le_refl _) _
 have sZ : Z.heap.size = w.heap.size + 2 := by rw [<- hZ]; simp [sV]
 have bZ : BoxAt Z (w.heap.size + 1) 76 #[.string t.id, .int .i64 t.kind, .int .i64 t.arg] := by rw [<- hZ, <- sV]; exact BoxAt.new V _ _
 have rZ : BoxAt Z w.heap.size 76 #[.string ⟨#[]⟩, .int .i64 0, .int .i64 0] := rV.below gVZ rV.lt
 have gZ : Below w.heap.size w Z := gV.trans (gVZ.mono gV.size)
 have y0 : V.cell? ⟨T, 0, none⟩ = some (.slice (some ⟨g, 0, none⟩) (r.length + 1) c) := (h1.below gV hTl).cell (o := 0) rfl
 have y0' : Z.cell? ⟨T, 0, none⟩ = some (.slice (some ⟨g, 0, none⟩) (r.length + 1) c) := (h1.below gZ hTl).cell (o := 0) rfl
 have hcm : ∀ o u, (taskEnc t)[o]? = some u -> V.cell? ⟨g, o, none⟩ = some u := fun o u ho => by
  have := h3.1.cells (g := g) rfl _ u (flat_get (sz := 3) (enc := taskEnc) (fun _ => rfl) (t :: r) 0 t o u rfl ho)
  rw [addr_add] at this
  refine (gV.cell (p := ⟨g, o, none⟩) hgl).trans ?_
  simpa using this
 have m0 := hcm 0 _ rfl
 have m1 := hcm 1 _ rfl
 have m2 := hcm 2 _ rfl
 have j2 : (0 : Int) < ((r.length + 1 : Nat) : Int) := by omega
 have HD : Hid (Calls Tryz.prog 204 #[.slice (some ⟨g, 0, none⟩) (r.length + 1) c, .int .i64 0, .int .i64 1] Z fun e w' => ∃ v, e = .returned v /\ (v = .slice (some ⟨g, 0, none⟩) r.length c /\ BoxAt w' T 179 #[.slice (some ⟨g, 0, none⟩) (r.length + 1) c, .int .i64 room] /\ w'.ownsRow 0 76 3 (.slice (some ⟨g, 0, none⟩) r.length c) r.length (r.flatMap taskEnc) /\ Kept (· = g) Z w')) := by
  refine (deleteT_calls g c 0 (t :: r) t Z (row_kept h3.1 (Kept.of_below gZ (X := fun b => w.heap.size <= b) (fun _ _ h => h)) (fun g' e h => by have := (h3.1.lt g' e).2; omega) (Nat.le_refl _)) rfl (by simp; omega)).mono ?_
  rintro e w' ⟨v, rfl, rfl, h5, h6⟩
  exact ⟨_, rfl, by simp, (h1.below gZ hTl).kept h6 (fun e => hgT e.symm), by simpa using h5, h6⟩
 have HGZ := hid_of gZ
 have HBZ := hid_of bZ
 have HRZ := hid_of rZ
 clear h1 h3 hcm gV gVZ gZ bZ rZ rV
 go_enter Tryz.func193, Tryz.ntmps193
 go_upto_region 1 with fail
 try rw [hV]
 clear hV
 go_upto_region 2 with fail
 try rw [sV]
 try rw [hZ]
 clear hZ y0 m0 m1 m2
 go_upto_region 3 with (go_at_call 204; refine HD.out.mono ?_; rintro e w1 ⟨v1, rfl, rfl, hb1, hr1, hk1⟩; have y1 := hb1.cell (o := 0) rfl; have f1 := hb1.frozen 0)
 obtain ⟨w2, hw2⟩ : ∃ w2, w1.setCell ⟨T, 0, none⟩ (.slice (some ⟨g, 0, none⟩) r.length c) = w2 := ⟨_, rfl⟩
 have kS : Kept (· = T) w1 w2 := by rw [<- hw2]; exact (Kept.refl _ _).setCell (.inl (by rfl)) _
 have hT2 : BoxAt w2 T 179 #[.slice (some ⟨g, 0, none⟩) r.length c, .int .i64 room] := by rw [<- hw2]; exact hb1.setAt 0 _
 have hR2 := row_kept hr1 kS (fun g' e h => by simp [Value.ownBlock] at e; omega) (Nat.le_refl _)
 have k02 : Kept (fun b => b = g \/ b = T) w w2 := ((Kept.of_below HGZ.out (X := fun b => b = g \/ b = T) (fun b h1 h2 => by omega)).andThen hk1 (fun b _ e => .inl e)).andThen kS (fun b _ e => .inr e)
 have b2 := (HBZ.out.kept hk1 (by omega)).kept kS (by omega)
 have r2 := (HRZ.out.kept hk1 (by omega)).kept kS (by omega)
 have HT2 := hid_of hT2
 have HRW := hid_of hR2
 have HK2 := hid_of k02
 have HR2 := hid_of r2
 have fr := r2.frozen
 have n0 := b2.cell (o := 0) rfl
 have n1 := b2.cell (o := 1) rfl
 have n2 := b2.cell (o := 2) rfl
 have z0 := r2.cell (o := 0) rfl
 have z1 := r2.cell (o := 1) rfl
 have z2 := r2.cell (o := 2) rfl
 try rw [hw2]
 clear hw2 b2 r2 hb1 hr1 hk1 y1 f1 kS hT2 hR2 k02
 go_wp2_with fail
 change bodyPost Tryz.prog Tryz.f193 _ Exit.ret _ (putAll w2 w.heap.size 0 (taskEnc t))
 have kP : Kept (· = w.heap.size) w2 (putAll w2 w.heap.size 0 (taskEnc t)) := kept_putAll (X := fun x => x = w.heap.size) (.inl rfl) _ _ _ (Kept.refl _ _)
 have hbz := box_putAll (taskEnc t) HR2.out rfl
 generalize putAll w2 w.heap.size 0 (taskEnc t) = U at kP hbz ⊢
 have hbv : BoxAt U w.heap.size 76 #[.string t.id, .int .i64 t.kind, .int .i64 t.arg] := hbz
 have q0 := hbv.cell (o := 0) rfl
 have q1 := hbv.cell (o := 1) rfl
 have q2 := hbv.cell (o := 2) rfl
 refine bodyPost_ret (v := .agg #[.string t.id, .int .i64 t.kind, .int .i64 t.arg]) ?_ rfl ⟨_, rfl, rfl, ⟨_, HT2.out.kept kP (by omega), ⟨h2, hTl⟩, row_kept HRW.out kP (fun g' e h => by simp [Value.ownBlock] at e; omega) (Nat.le_refl _), fun g' e => ?_⟩, (HK2.out.andThen kP (fun b hb e => by omega)).mono (fun b _ e => by rcases e with rfl | rfl; exact hpg; exact h2)⟩
 ·simp [results, Tryz.results193, go_sem, q0, q1, q2]
 ·obtain rfl : g = g' := by simpa [Value.ownBlock] using e
  exact ⟨hpg, hgl⟩
end Go.Proofs.YteahdfeialekbaaGreatDoor
