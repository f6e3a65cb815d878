/-
  A loop over an iterator keeps whatever block its body does not turn, also where the iterator runs loops over iterators of its own: no premise but the iterator's contract and the walk of the body.
-/
import Derived.RangeFuncNested
import Derived.RangeFuncBound
import Derived.RangeFuncCalls
import Derived.RangeFuncLeaves
import Derived.WalkKit
import Derived.Test.YteahdfeialekbaaGreatDoorProg
import Derived.BigQuiet
import Derived.Deep.QuietTactic
import Derived.Shelf.Abstract
import Derived.Shelf.RegionOpen
import Derived.OwnWalkIn
import Derived.TacticsInMore
import Derived.LoopNIn
import Derived.LoopIn
namespace Go.Proofs.YteahdfeialekbaaGreatDoor
open Go Go.RowKit
structure Kept (X : Nat -> Prop) (W W' : World) : Prop where
 os : W'.os = W.os
 tape : W'.tape = W.tape
 output : W'.output = W.output
 size : W.heap.size <= W'.heap.size
 block : ∀ k, k < W.heap.size -> ¬ X k -> W'.heap[k]? = W.heap[k]?
theorem Kept.refl (X : Nat -> Prop) (W : World) : Kept X W W := ⟨rfl, rfl, rfl, Nat.le_refl _, fun _ _ _ => rfl⟩
theorem Kept.trans {X : Nat -> Prop} {A B C : World} (h : Kept X A B) (k : Kept X B C) : Kept X A C :=
 ⟨k.os.trans h.os, k.tape.trans h.tape, k.output.trans h.output, Nat.le_trans h.size k.size,
   fun i hi hx => (k.block i (Nat.lt_of_lt_of_le hi h.size) hx).trans (h.block i hi hx)⟩
theorem Kept.mono {X Y : Nat -> Prop} {A B : World} (h : Kept X A B) (hy : ∀ k, k < A.heap.size -> X k -> Y k) : Kept Y A B :=
 ⟨h.os, h.tape, h.output, h.size, fun k hk hx => h.block k hk (fun hX => hx (hy k hk hX))⟩
theorem Kept.of_below {X : Nat -> Prop} {B : Nat} {W W' : World} (h : Below B W W') (hX : ∀ k, k < W.heap.size -> B <= k -> X k) : Kept X W W' :=
 ⟨h.os, h.tape, h.output, h.size, fun k hk hx => h.block k (Nat.lt_of_not_le fun hB => hx (hX k hk hB))⟩
theorem Kept.below {X : Nat -> Prop} {B : Nat} {W W' : World} (h : Kept X W W') (hB : B <= W.heap.size) (hX : ∀ k, X k -> B <= k) : Below B W W' :=
 ⟨h.os, h.tape, h.output, h.size, fun k hk => h.block k (Nat.lt_of_lt_of_le hk hB) (fun hx => Nat.not_lt_of_le (hX k hx) hk)⟩
theorem Kept.later {X : Nat -> Prop} {A B C : World} (h : Kept X A B) {n : Nat} (hb : Below n B C) (hn : A.heap.size <= n) : Kept X A C :=
 ⟨hb.os.trans h.os, hb.tape.trans h.tape, hb.output.trans h.output, Nat.le_trans h.size hb.size, fun k hk hx => (hb.block k (Nat.lt_of_lt_of_le hk hn)).trans (h.block k hk hx)⟩
theorem Kept.heap {X : Nat -> Prop} {W W' : World} (h : Kept X W W') {k : Nat} {o : Obj} (hk : W.heap[k]? = some o) (hx : ¬ X k) : W'.heap[k]? = some o :=
 (h.block k (Array.getElem?_eq_some_iff.1 hk).1 hx).trans hk
theorem Kept.alloc (X : Nat -> Prop) (W : World) (o : Obj) : Kept X W (W.alloc o) :=
 Kept.of_below ((Below.refl W.heap.size W).alloc (Nat.le_refl _) o) (fun _ h h' => absurd h (Nat.not_lt_of_le h'))
theorem Kept.grown {X : Nat -> Prop} {W W' : World} {row : Option Nat} (hg : W.grownBy W' row) (hx : ∀ r, row = some r -> X r) : Kept X W W' :=
 ⟨hg.os, hg.tape, hg.output, hg.size, fun k hk hn => hg.block k hk (fun e => hn (hx k e.symm))⟩
theorem Kept.putObj {X : Nat -> Prop} (W : World) (l : Nat) (o : Obj) (hx : X l) : Kept X W (W.putObj l o) :=
 Kept.grown (grownBy_putObj' W l o) (fun r e => by cases e; exact hx)
theorem Kept.cell {X : Nat -> Prop} {W W' : World} (h : Kept X W W') {p : Addr} (hk : p.block < W.heap.size) (hx : ¬ X p.block) : W'.cell? p = W.cell? p :=
 World.cell?_of_block (w := W) (h.block p.block hk hx)
theorem Kept.drew {X : Nat -> Prop} {A W : World} (h : Kept X A W) : Kept X A W.drew := ⟨h.os, h.tape, h.output, h.size, h.block⟩
theorem Kept.setCell {X : Nat -> Prop} {A W : World} (h : Kept X A W) {p : Addr} (hp : X p.block \/ A.heap.size <= p.block) (u : Value) : Kept X A (W.setCell p u) := by
 have b : Below p.block W (W.setCell p u) := (Below.refl _ W).setCell (Nat.le_refl _) u
 refine ⟨b.os.trans h.os, b.tape.trans h.tape, b.output.trans h.output, Nat.le_trans h.size b.size, fun k hk hx => ?_⟩
 refine (Below.heap_setCell W p u k (fun e => ?_)).trans (h.block k hk hx)
 subst e
 rcases hp with hp | hp
 ·exact hx hp
 ·omega
theorem Kept.andThen {X Y : Nat -> Prop} {A B C : World} (h : Kept X A B) (k : Kept Y B C) (hy : ∀ b, b < A.heap.size -> Y b -> X b) : Kept X A C :=
 ⟨k.os.trans h.os, k.tape.trans h.tape, k.output.trans h.output, Nat.le_trans h.size k.size, fun b hb hx => (k.block b (Nat.lt_of_lt_of_le hb h.size) (fun hY => hx (hy b hb hY))).trans (h.block b hb hx)⟩
def SeqX {α : Type} (F : Fence) (n : Nat) (P : Program) (g : Nat) (lb : Array Value) (encs : α -> Array Value) (X : Nat -> Prop) (S Sp : List α -> Prop) (W : World) : Prop :=
 ∀ (l : Nat) (J Jx : List α -> World -> Prop), (∀ s A B, J s A -> Below W.heap.size A B -> J s B) -> (∀ s A B, Jx s A -> Below W.heap.size A B -> Jx s B) ->
  (∀ pre x W1, J pre W1 -> W.heap.size <= W1.heap.size -> YieldAt F (n - 1) P l (encs x) W1 fun e W' =>
   (e = .returned (.bool true) /\ J (pre ++ [x]) W' /\ Kept X W1 W') \/ (e = .returned (.bool false) /\ Jx (pre ++ [x]) W' /\ Kept (· < W.heap.size) W1 W')) ->
  J [] W ->
  CallsIn F n P g (#[.func (.yield l) #[] #[]] ++ lb) W fun e W' => (∃ v, e = .returned v) /\ ((∃ xs, S xs /\ J xs W') \/ (∃ pre, Sp pre /\ Jx pre W'))
def roundEnds {α : Type} (B : Nat) (X : Nat -> Prop) (I : List α -> World -> Prop) (Ix : Code -> List α -> World -> Prop) (xs : List α) (W : World) : Exit -> Act -> World -> Prop
 | .normal, _, W' => Kept X W W' /\ I xs W'
 | .ret, _, W' => Kept (· < B) W W' /\ Ix .ret xs W'
 | .exit id, _, W' => Kept (· < B) W W' /\ Ix (.exit id) xs W'
 | .goto t, _, W' => Kept (· < B) W W' /\ Ix (.goto t) xs W'
 | .panic _, _, _ => False
 | .outgrown, _, _ => False
variable {F : Fence} {n : Nat} {P : Program}
theorem range_law {α : Type} {g : Operand} {ps : Array Tmp} {assign body : Code} {Q : Exit -> Act -> World -> Prop} {a : Act} {w : World}
  (hro : F.round = none) (h1 : F.depth.isSome = true -> 1 <= n) {gf : Nat} {lb : Array Value} (hg : a.eval g = .func (.func gf) #[] lb) (hFg : F.fn gf) (eg : ∀ args w, (callFunc gf args).run P w = .ok (.enter gf args) w)
  {encs : α -> Array Value} {S Sp : List α -> Prop} (X : Nat -> Prop) (hX : ∀ k, X k -> k < w.heap.size)
  (hseq : ∀ W, Below w.heap.size w W -> W.heap.size = w.heap.size + 2 -> SeqX F (n - 1) P gf lb encs (fun k => X k \/ k = w.heap.size + 1) S Sp W)
  (hps : ∀ x, (encs x).size = ps.size)
  (I : List α -> World -> Prop) (Ix : Code -> List α -> World -> Prop) (hI : ∀ s A B, I s A -> Below w.heap.size A B -> I s B) (hIx : ∀ c s A B, Ix c s A -> Below w.heap.size A B -> Ix c s B) (h0 : I [] w)
  (Ax : List α -> α -> Act -> World -> Prop) (hAx : ∀ pre x a' A B, Ax pre x a' A -> Kept (· = w.heap.size + 1) A B -> Ax pre x a' B)
  (hassign : ∀ (l : Nat) (pre : List α) (x : α) (W : World) (K : Act -> World -> Prop), I pre W -> w.heap.size + 2 <= W.heap.size -> (∀ a' W', Kept X W W' -> I pre W' -> Ax pre x a' W' -> K a' W') ->
   assign.wpIn (F.inRound l) (n - 1 - 1) P (Exit.then K (fun _ _ _ => False)) { tmps := (ps.zip (encs x)).foldl (fun t (p, v) => t.setIfInBounds p v) a.tmps, defers := [] } W)
  (hbody : ∀ (l : Nat) (pre : List α) (x : α) (a' : Act) (W : World), I pre W -> Ax pre x a' W -> w.heap.size + 2 <= W.heap.size -> body.wpIn (F.inRound l) (n - 1 - 1) P (roundEnds w.heap.size X I Ix (pre ++ [x]) W) a' W)
  (hdone : ∀ (D : Nat) (xs : List α) (W : World), w.heap.size <= D -> S xs -> I xs W -> W.heap[D]? = some (.deferred (some [])) -> Q .normal { a with defers := { target := .collected D, args := #[] } :: a.defers } W)
  (hstop : ∀ (D : Nat) (c : Code) (pre : List α) (W : World), w.heap.size <= D -> Sp pre -> Ix c pre W -> W.heap[D]? = some (.deferred (some [])) -> c.wpIn F n P Q { a with defers := { target := .collected D, args := #[] } :: a.defers } W) :
  (Code.rangeFunc g ps assign body).wpIn F n P Q a w := by
 refine wpIn_rangeFunc fun fn hfn => ?_
 rw [hro]
 obtain ⟨rec, hrec⟩ : ∃ rec : LoopState -> Option Code -> Loop, rec = fun st pe => { state := st, pending := pe, fn, tmps := a.tmps, params := ps, assign, body, defers := w.heap.size } := ⟨_, rfl⟩
 obtain ⟨V, hV⟩ : ∃ V, (w.alloc (.deferred (some []))).alloc (.loop (rec .ready none)) = V := ⟨_, rfl⟩
 have vsize : V.heap.size = w.heap.size + 2 := by rw [<- hV]; simp
 have vbelow : Below w.heap.size w V := by
  rw [<- hV]; exact ((Below.refl _ w).alloc (Nat.le_refl _) _).alloc (by simp) _
 have vloop : V.heap[w.heap.size + 1]? = some (.loop (rec .ready none)) := by
  have h := World.alloc_heap_new (w.alloc (.deferred (some []))) (.loop (rec .ready none))
  rw [World.size_alloc] at h; rw [<- hV]; exact h
 have vdef : V.heap[w.heap.size]? = some (.deferred (some [])) := by
  rw [<- hV]; exact (Below.heap_alloc _ _ _ (by simp)).trans (World.alloc_heap_new w _)
 refine ⟨w.heap.size + 1, [{ target := .collected w.heap.size, args := #[] }], V, { target := .fn (.func gf) lb, args := #[.func (.yield (w.heap.size + 1)) #[] #[]] }, V, gf,
  #[.func (.yield (w.heap.size + 1)) #[] #[]] ++ lb, V, ?_, ?_, ?_, ?_, h1, ?_⟩
 ·rw [<- hV, hrec]; exact run_enterLoop_outer _ _ _ _ _
 ·simp only [resolve, hg]; simp [go_sem]
 ·intro f' hf'; simp [Target.leads] at hf'; subst hf'; exact hFg
 ·simp [invoke, go_sem, eg]
 have lift : ∀ {A B : World}, Below V.heap.size A B -> Below w.heap.size A B := fun h => h.mono (by omega)
 refine (hseq V vbelow vsize (w.heap.size + 1)
   (fun pre W => I pre W /\ W.heap[w.heap.size + 1]? = some (.loop (rec .ready none)) /\ W.heap[w.heap.size]? = some (.deferred (some [])))
   (fun pre W => ∃ c, Ix c pre W /\ W.heap[w.heap.size + 1]? = some (.loop (rec .done (some c))) /\ W.heap[w.heap.size]? = some (.deferred (some [])))
   (fun s A B hs hb => ⟨hI s A B hs.1 (lift hb), (hb.block _ (by omega)).trans hs.2.1, (hb.block _ (by omega)).trans hs.2.2⟩)
   (fun s A B hs hb => by
    obtain ⟨c, hc, hl, hk⟩ := hs
    exact ⟨c, hIx c s A B hc (lift hb), (hb.block _ (by omega)).trans hl, (hb.block _ (by omega)).trans hk⟩)
   ?_ ⟨hI _ _ _ h0 vbelow, vloop, vdef⟩).mono ?_
 ·rintro pre x W ⟨hi, hl, hk⟩ hsz
  rw [vsize] at hsz
  have hy := run_yield (P := P) (args := encs x) hl (by rw [hrec]; exact hps x)
  rw [hrec] at hy
  refine ⟨fn, _, assign, body, hy, roundIn_of_wpIn hfn (hassign _ pre x W _ hi hsz fun a' U kU iU aU => ?_)⟩
  clear hy
  have nX : ∀ k, w.heap.size <= k -> ¬ X k := fun k hk hx => Nat.not_lt_of_le hk (hX k hx)
  have ul := kU.heap hl (nX _ (by omega))
  have uk := kU.heap hk (nX _ (Nat.le_refl _))
  have usz : w.heap.size + 2 <= U.heap.size := Nat.le_trans hsz kU.size
  refine ⟨_, run_beginRound ul (by rw [hrec]), ?_⟩
  obtain ⟨T, hT⟩ : ∃ T, U.putObj (w.heap.size + 1) (.loop { rec .ready none with state := .busy }) = T := ⟨_, rfl⟩
  rw [hT]
  have kT : Kept (· = w.heap.size + 1) U T := by rw [<- hT]; exact Kept.putObj _ _ _ rfl
  have tl : T.heap[w.heap.size + 1]? = some (.loop { rec .ready none with state := .busy }) := by rw [<- hT]; exact World.putObj_heap_same (by omega)
  have tk : T.heap[w.heap.size]? = some (.deferred (some [])) := kT.heap uk (by omega)
  have toB : ∀ {A B : World}, w.heap.size <= A.heap.size -> Kept (· = w.heap.size + 1) A B -> Below w.heap.size A B := fun h k => k.below h (fun _ e => by omega)
  refine wpIn_mono (hbody _ pre x a' T (hI _ _ _ iU (toB (by omega) kT)) (hAx _ _ _ _ _ aU kT) (Nat.le_trans usz kT.size)) ?_
  have fin : ∀ (jump : Option Code) (Z : World), Kept (· < w.heap.size) T Z -> ∃ Z', (Instr.endRound (w.heap.size + 1) jump).run P Z = .ok (.bool jump.isNone) Z' /\
    Kept (· = w.heap.size + 1) Z Z' /\ Z'.heap[w.heap.size + 1]? = some (.loop (rec (if jump.isNone then .ready else .done) jump)) /\ Z'.heap[w.heap.size]? = some (.deferred (some [])) := fun jump Z kZ => by
   have zl := kZ.heap tl (by omega)
   have zk := kZ.heap tk (by omega)
   have zr := run_endRound (P := P) jump zl
   rw [hrec] at zr zl ⊢
   exact ⟨_, zr, Kept.putObj _ _ _ rfl, World.putObj_heap_same (Array.getElem?_eq_some_iff.1 zl).1, (World.putObj_heap_other (by omega)).trans zk⟩
  have kS : ∀ {Z : World}, Kept X T Z -> Kept (· < w.heap.size) T Z := fun h => h.mono (fun k _ hx => hX k hx)
  have leave : ∀ (c : Code) (Z : World), Kept (· < w.heap.size) T Z -> Ix c (pre ++ [x]) Z -> ∃ v Z', (Instr.endRound (w.heap.size + 1) (some c)).run P Z = .ok v Z' /\
    ((Ending.returned v = .returned (.bool true) /\ (I (pre ++ [x]) Z' /\ Z'.heap[w.heap.size + 1]? = some (.loop (rec .ready none)) /\ Z'.heap[w.heap.size]? = some (.deferred (some []))) /\ Kept (fun k => X k \/ k = w.heap.size + 1) W Z') \/
      (Ending.returned v = .returned (.bool false) /\ (∃ c, Ix c (pre ++ [x]) Z' /\ Z'.heap[w.heap.size + 1]? = some (.loop (rec .done (some c))) /\ Z'.heap[w.heap.size]? = some (.deferred (some []))) /\ Kept (· < V.heap.size) W Z')) := fun c Z kZ hi3 => by
   obtain ⟨Z', hr, kZ', hl4, hk4⟩ := fin (some c) Z kZ
   refine ⟨_, Z', hr, .inr ⟨rfl, ⟨c, hIx c _ _ _ hi3 (toB (Nat.le_trans (by omega) (Nat.le_trans kT.size kZ.size)) kZ'), hl4, hk4⟩, ?_⟩⟩
   have b1 : Kept (· < V.heap.size) W U := kU.mono (fun k _ hx => by have := hX k hx; omega)
   exact ((b1.trans (kT.mono (fun k _ e => by omega))).trans (kZ.mono (fun k _ e => by omega))).trans (kZ'.mono (fun k _ e => by omega))
  rintro e a3 Z hp
  cases e with
  | normal =>
   obtain ⟨kZ, hi3⟩ := hp
   obtain ⟨Z', hr, kZ', hl4, hk4⟩ := fin none Z (kS kZ)
   refine ⟨_, Z', hr, .inl ⟨rfl, ⟨hI _ _ _ hi3 (toB (Nat.le_trans (by omega) (Nat.le_trans kT.size kZ.size)) kZ'), hl4, hk4⟩, ?_⟩⟩
   exact (((kU.mono (fun k _ h => .inl h)).trans (kT.mono (fun k _ h => .inr h))).trans (kZ.mono (fun k _ h => .inl h))).trans (kZ'.mono (fun k _ h => .inr h))
  | ret => exact leave .ret Z hp.1 hp.2
  | exit id => exact leave (.exit id) Z hp.1 hp.2
  | goto t => exact leave (.goto t) Z hp.1 hp.2
  | panic ch => exact hp.elim
  | outgrown => exact hp.elim
 ·rintro e Z ⟨⟨v, rfl⟩, (⟨xs, hS, hi, hl, hk⟩ | ⟨pre, hSp, c, hi, hl, hk⟩)⟩
  ·have hlt := (Array.getElem?_eq_some_iff.1 hl).1
   refine ⟨none, _, by have := run_endLoop (P := P) hl (by rw [hrec]; simp); rw [hrec] at this; exact this, hdone _ xs _ (Nat.le_refl _) hS (hI _ _ _ hi ?_) ((World.putObj_heap_other (by omega)).trans hk)⟩
   exact (Kept.putObj (X := (· = w.heap.size + 1)) _ _ _ rfl).below (by omega) (fun _ e => by omega)
  ·have hlt := (Array.getElem?_eq_some_iff.1 hl).1
   refine ⟨some c, _, by have := run_endLoop (P := P) hl (by rw [hrec]; simp); rw [hrec] at this; exact this, hstop _ c pre _ (Nat.le_refl _) hSp (hIx c _ _ _ hi ?_) ((World.putObj_heap_other (by omega)).trans hk)⟩
   exact (Kept.putObj (X := (· = w.heap.size + 1)) _ _ _ rfl).below (by omega) (fun _ e => by omega)
structure KidS where
 kind : Int
 less : Int
structure KindS where
 A : Int
 B : Int
 kids : List KidS
structure TaskS where
 id : ByteArray
 kind : Int
 arg : Int
def numB (k n : Int) : Bool := decide (0 <= k /\ k <= n - 1)
def rangeB (x lo hi : Int) : Bool := decide (lo <= x /\ x <= hi)
def kidB (n : Int) (c : KidS) : Bool := numB c.kind n && rangeB c.less 1 9
def kindB (n : Int) (k : KindS) : Bool := rangeB k.A (-1000) 1000 && rangeB k.B (-1000) 1000 && decide (k.kids.length <= 3) && k.kids.all (kidB n)
def progB (ks : List KindS) (kind arg : Int) : Bool := rangeB ks.length 1 5 && ks.all (kindB ks.length) && numB kind ks.length && rangeB arg 0 12
def digit (i : Nat) : UInt8 := UInt8.ofNat (48 + i)
def kidId (id : ByteArray) (i : Nat) : ByteArray := id ++ ⟨#[digit i]⟩
def childrenFrom (id : ByteArray) (x : Int) : Nat -> List KidS -> List TaskS
 | _, [] => []
 | i, c :: r => if c.less <= x then ⟨kidId id i, c.kind, x - c.less⟩ :: childrenFrom id x (i + 1) r else childrenFrom id x (i + 1) r
def kindAt (ks : List KindS) (k : Int) : KindS := ks[k.toNat]?.getD ⟨0, 0, []⟩
def children (ks : List KindS) (t : TaskS) : List TaskS := childrenFrom t.id t.arg 0 (kindAt ks t.kind).kids
def tree (ks : List KindS) : Nat -> TaskS -> List TaskS
 | 0, t => [t]
 | f + 1, t => t :: (children ks t).flatMap (tree ks f)
def valueOf (ks : List KindS) (t : TaskS) : Int := (kindAt ks t.kind).A * t.arg + (kindAt ks t.kind).B
def taskV (t : TaskS) : Value := .agg #[.string t.id, .int .i64 t.kind, .int .i64 t.arg]
def KidsAt (ok : Nat -> Prop) (W : World) (v : Value) (l : List KidS) : Prop :=
 ∃ a cap, v = .slice a l.length cap /\ ∀ j c, l[j]? = some c -> ∃ b o, a = some ⟨b, o, none⟩ /\ ok b /\ b < W.heap.size /\
  W.cell? ⟨b, o + j * 2, none⟩ = some (.int .i64 c.kind) /\ W.cell? ⟨b, o + j * 2 + 1, none⟩ = some (.int .i64 c.less)
def KindsAt (ok : Nat -> Prop) (W : World) (v : Value) (l : List KindS) : Prop :=
 ∃ a cap, v = .slice a l.length cap /\ ∀ j k, l[j]? = some k -> ∃ b o kv, a = some ⟨b, o, none⟩ /\ ok b /\ b < W.heap.size /\
  W.cell? ⟨b, o + j * 3, none⟩ = some (.int .i64 k.A) /\ W.cell? ⟨b, o + j * 3 + 1, none⟩ = some (.int .i64 k.B) /\ W.cell? ⟨b, o + j * 3 + 2, none⟩ = some kv /\ KidsAt ok W kv k.kids
theorem KidsAt.kept {ok X : Nat -> Prop} {W W' : World} {v : Value} {l : List KidS} (h : KidsAt ok W v l) (k : Kept X W W') (hx : ∀ b, ok b -> ¬ X b) : KidsAt ok W' v l := by
 obtain ⟨a, cap, rfl, hc⟩ := h
 refine ⟨a, cap, rfl, fun j c hj => ?_⟩
 obtain ⟨b, o, ha, hok, hb, c0, c1⟩ := hc j c hj
 exact ⟨b, o, ha, hok, Nat.lt_of_lt_of_le hb k.size, (k.cell (p := ⟨b, _, none⟩) hb (hx b hok)).trans c0, (k.cell (p := ⟨b, _, none⟩) hb (hx b hok)).trans c1⟩
theorem KindsAt.kept {ok X : Nat -> Prop} {W W' : World} {v : Value} {l : List KindS} (h : KindsAt ok W v l) (k : Kept X W W') (hx : ∀ b, ok b -> ¬ X b) : KindsAt ok W' v l := by
 obtain ⟨a, cap, rfl, hc⟩ := h
 refine ⟨a, cap, rfl, fun j c hj => ?_⟩
 obtain ⟨b, o, kv, ha, hok, hb, c0, c1, c2, hk⟩ := hc j c hj
 exact ⟨b, o, kv, ha, hok, Nat.lt_of_lt_of_le hb k.size, (k.cell (p := ⟨b, _, none⟩) hb (hx b hok)).trans c0, (k.cell (p := ⟨b, _, none⟩) hb (hx b hok)).trans c1, (k.cell (p := ⟨b, _, none⟩) hb (hx b hok)).trans c2, hk.kept k hx⟩
theorem KidsAt.below {ok : Nat -> Prop} {W : World} {v : Value} {l : List KidS} (h : KidsAt ok W v l) : KidsAt (fun b => ok b /\ b < W.heap.size) W v l := by
 obtain ⟨a, cap, rfl, hc⟩ := h
 refine ⟨a, cap, rfl, fun j c hj => ?_⟩
 obtain ⟨b, o, ha, hok, hb, c0, c1⟩ := hc j c hj
 exact ⟨b, o, ha, ⟨hok, hb⟩, hb, c0, c1⟩
theorem KindsAt.below {ok : Nat -> Prop} {W : World} {v : Value} {l : List KindS} (h : KindsAt ok W v l) : KindsAt (fun b => ok b /\ b < W.heap.size) W v l := by
 obtain ⟨a, cap, rfl, hc⟩ := h
 refine ⟨a, cap, rfl, fun j c hj => ?_⟩
 obtain ⟨b, o, kv, ha, hok, hb, c0, c1, c2, hk⟩ := hc j c hj
 exact ⟨b, o, kv, ha, ⟨hok, hb⟩, hb, c0, c1, c2, hk.below⟩
def BoxAt (W : World) (B : Nat) (t : TypeId) (cs : Array Value) : Prop := W.heap[B]? = some (.cells cs t (0, 0))
theorem BoxAt.lt {W : World} {B : Nat} {t : TypeId} {cs : Array Value} (h : BoxAt W B t cs) : B < W.heap.size := (Array.getElem?_eq_some_iff.1 h).1
theorem BoxAt.cell {W : World} {B : Nat} {t : TypeId} {cs : Array Value} (h : BoxAt W B t cs) {o : Nat} {v : Value} (hv : cs[o]? = some v) : W.cell? ⟨B, o, none⟩ = some v := by
 simp [World.cell?, show W.heap[B]? = _ from h, hv]
theorem BoxAt.frozen {W : World} {B : Nat} {t : TypeId} {cs : Array Value} (h : BoxAt W B t cs) (o : Nat) : W.frozen? ⟨B, o, none⟩ = false := by
 simp [World.frozen?, show W.heap[B]? = _ from h]
theorem BoxAt.new (W : World) (t : TypeId) (cs : Array Value) : BoxAt (W.alloc (.cells cs t)) W.heap.size t cs := World.alloc_heap_new W _
theorem BoxAt.kept {X : Nat -> Prop} {W W' : World} {B : Nat} {t : TypeId} {cs : Array Value} (h : BoxAt W B t cs) (k : Kept X W W') (hx : ¬ X B) : BoxAt W' B t cs := k.heap h hx
theorem BoxAt.below {n : Nat} {W W' : World} {B : Nat} {t : TypeId} {cs : Array Value} (h : BoxAt W B t cs) (k : Below n W W') (hx : B < n) : BoxAt W' B t cs := (k.block B hx).trans h
theorem BoxAt.alloc {W : World} {B : Nat} {t : TypeId} {cs : Array Value} (h : BoxAt W B t cs) (o : Obj) : BoxAt (W.alloc o) B t cs := (Below.heap_alloc W o B h.lt).trans h
theorem cell_alloc {w : World} {a : Addr} {v : Value} (o : Obj) (h : w.cell? a = some v) : (w.alloc o).cell? a = some v :=
 cell_kept h (World.grownBy_alloc w o none) (fun r e => by cases e)
theorem cell_alloc3 {w : World} {a : Addr} {v : Value} (h : w.cell? a = some v) (o1 o2 o3 : Obj) : (((w.alloc o1).alloc o2).alloc o3).cell? a = some v :=
 cell_alloc o3 (cell_alloc o2 (cell_alloc o1 h))
set_option maxHeartbeats 400000 in
theorem within_calls (n lo hi : Int) (w : World) :
  Calls Tryz.prog 105 #[.int .i64 n, .int .i64 lo, .int .i64 hi] w fun e w' => e = .returned (.bool (rangeB n lo hi)) /\ w' = w := by
 by_cases h1 : lo <= n
 ·by_cases h2 : n <= hi
  ·go_enter Tryz.func105, Tryz.ntmps105
   go_wp2
   go_ret
   exact ⟨by simp [rangeB, h1, h2], rfl⟩
  ·go_enter Tryz.func105, Tryz.ntmps105
   go_wp2
   go_ret
   exact ⟨by simp [rangeB, h2], rfl⟩
 ·go_enter Tryz.func105, Tryz.ntmps105
  go_wp2
  go_ret
  exact ⟨by simp [rangeB]; omega, rfl⟩
set_option maxHeartbeats 400000 in
theorem isNumber_calls (k n : Int) (h0 : 0 <= n) (h1 : n <= 9223372036854775807) (w : World) :
  Calls Tryz.prog 107 #[.int .i64 k, .int .i64 n] w fun e w' => e = .returned (.bool (numB k n)) /\ w' = w := by
 go_enter Tryz.func107, Tryz.ntmps107
 go_wp2_with (go_at_call 105; refine (within_calls _ _ _ _).mono ?_; rintro e w' ⟨rfl, rfl⟩)
 go_ret
 exact ⟨by simp [rangeB, numB], rfl⟩
theorem kindB_at (n A B : Int) (l : List KidS) (hA : rangeB A (-1000) 1000 = true) (hB : rangeB B (-1000) 1000 = true) (h3 : l.length <= 3) : kindB n ⟨A, B, l⟩ = l.all (kidB n) := by
 simp [kindB, hA, hB, h3]
theorem all_drop_get {α : Type} (p : α -> Bool) (l : List α) (k : Nat) (c : α) (h : l[k]? = some c) : (l.drop k).all p = (p c && (l.drop (k + 1)).all p) := by
 have hk := (List.getElem?_eq_some_iff.1 h).1
 have he := (List.getElem?_eq_some_iff.1 h).2
 rw [List.drop_eq_getElem_cons hk, List.all_cons, he]
set_option maxHeartbeats 1000000 in
theorem isKind_calls (A B n : Int) (kv : Value) (l : List KidS) (ok : Nat -> Prop) (h0 : 0 <= n) (h1 : n <= 9223372036854775807) (w : World) (hk : KidsAt ok w kv l) (hl : l.length <= 9223372036854775806) :
  Calls Tryz.prog 106 #[.agg #[.int .i64 A, .int .i64 B, kv], .int .i64 n] w fun e w' => e = .returned (.bool (kindB n ⟨A, B, l⟩)) /\ Below w.heap.size w w' := by
 obtain ⟨a, cap, rfl, hc⟩ := hk
 by_cases hA : rangeB A (-1000) 1000 = true
 case neg =>
  go_enter Tryz.func106, Tryz.ntmps106
  go_wp2_with (go_at_call 105; refine (within_calls _ _ _ _).mono ?_; rintro e w' ⟨rfl, rfl⟩)
  go_ret
  exact ⟨by simp [kindB, hA], (Below.refl _ _).alloc (Nat.le_refl _) _⟩
 by_cases hB : rangeB B (-1000) 1000 = true
 case neg =>
  go_enter Tryz.func106, Tryz.ntmps106
  go_wp2_with (go_at_call 105; refine (within_calls _ _ _ _).mono ?_; rintro e w' ⟨rfl, rfl⟩)
  go_ret
  exact ⟨by simp [kindB, hB], (Below.refl _ _).alloc (Nat.le_refl _) _⟩
 by_cases h3 : l.length <= 3
 case neg =>
  go_enter Tryz.func106, Tryz.ntmps106
  go_wp2_with (go_at_call 105; refine (within_calls _ _ _ _).mono ?_; rintro e w' ⟨rfl, rfl⟩)
  go_ret
  exact ⟨by simp [kindB, h3], (Below.refl _ _).alloc (Nat.le_refl _) _⟩
 have HK : Hid (kindB n ⟨A, B, l⟩ = l.all (kidB n)) := kindB_at n A B l hA hB h3
 go_enter Tryz.func106, Tryz.ntmps106
 go_wp2_with (go_at_call 105; refine (within_calls _ _ _ _).mono ?_; rintro e w' ⟨rfl, rfl⟩)
 go_loopw [24] (fun i wr => ∃ k : Nat, k <= l.length /\ i = .int .i64 k /\ l.all (kidB n) = (l.drop k).all (kidB n) /\ Below w.heap.size w wr) (fun i _ => l.length - (intOf i).toNat)
 case atStart => exact ⟨0, Nat.zero_le _, rfl, rfl, (Below.refl _ _).alloc (Nat.le_refl _) _⟩
 case round =>
  obtain ⟨k, hk, rfl, hall, hb⟩ := hrel
  have HA : Hid (l.all (kidB n) = (l.drop k).all (kidB n)) := hall
  clear hall
  by_cases hlt : k < l.length
  ·obtain ⟨c, hcc⟩ : ∃ c, l[k]? = some c := ⟨_, List.getElem?_eq_getElem hlt⟩
   obtain ⟨b, o, rfl, hok, hbw, c0, c1⟩ := hc k c hcc
   have d0 := (hb.cell (p := ⟨b, o + k * 2, none⟩) hbw).trans c0
   have d1 := (hb.cell (p := ⟨b, o + k * 2 + 1, none⟩) hbw).trans c1
   have HS : Hid ((l.drop k).all (kidB n) = (kidB n c && (l.drop (k + 1)).all (kidB n))) := all_drop_get _ l k c hcc
   clear hc c0 c1
   by_cases hn : numB c.kind n = true
   ·by_cases hr : rangeB c.less 1 9 = true
    ·go_wp2_with (first
      | (go_at_call 107; refine (isNumber_calls _ _ h0 h1 _).mono ?_; rintro e w' ⟨rfl, rfl⟩)
      | (go_at_call 105; refine (within_calls _ _ _ _).mono ?_; rintro e w' ⟨rfl, rfl⟩))
     go_roundw
     case rel => exact ⟨k + 1, by omega, by go_num, by rw [HA.out, HS.out]; simp [kidB, hn, hr], hb.trans ((Below.refl _ _).alloc hb.size _)⟩
     case measure => simp [intOf]; omega
    ·go_wp2_with (first
      | (go_at_call 107; refine (isNumber_calls _ _ h0 h1 _).mono ?_; rintro e w' ⟨rfl, rfl⟩)
      | (go_at_call 105; refine (within_calls _ _ _ _).mono ?_; rintro e w' ⟨rfl, rfl⟩))
     go_ret
     exact ⟨by rw [HK.out, HA.out, HS.out]; simp [kidB, hr], hb.trans ((Below.refl _ _).alloc hb.size _)⟩
   ·go_wp2_with (first
      | (go_at_call 107; refine (isNumber_calls _ _ h0 h1 _).mono ?_; rintro e w' ⟨rfl, rfl⟩)
      | (go_at_call 105; refine (within_calls _ _ _ _).mono ?_; rintro e w' ⟨rfl, rfl⟩))
    go_ret
    exact ⟨by rw [HK.out, HA.out, HS.out]; simp [kidB, hn], hb.trans ((Below.refl _ _).alloc hb.size _)⟩
  ·go_wp2_with fail
   go_ret
   exact ⟨by rw [HK.out, HA.out, List.drop_eq_nil_of_le (by omega)]; rfl, hb⟩
set_option maxHeartbeats 1000000 in
theorem isProgram_calls (kv : Value) (kind arg : Int) (ks : List KindS) (ok : Nat -> Prop) (w : World) (hk : KindsAt ok w kv ks) (hl : ks.length <= 9223372036854775806) (hl2 : ∀ k ∈ ks, k.kids.length <= 9223372036854775806) :
  Calls Tryz.prog 63 #[.agg #[kv, .int .i64 kind, .int .i64 arg]] w fun e w' => e = .returned (.bool (progB ks kind arg)) /\ Below w.heap.size w w' := by
 obtain ⟨a, cap, rfl, hc⟩ := hk
 by_cases hR : rangeB ks.length 1 5 = true
 case neg =>
  go_enter Tryz.func63, Tryz.ntmps63
  go_wp2_with (go_at_call 105; refine (within_calls _ _ _ _).mono ?_; rintro e w' ⟨rfl, rfl⟩)
  go_ret
  exact ⟨by simp [progB, hR], (Below.refl _ _).alloc (Nat.le_refl _) _⟩
 go_enter Tryz.func63, Tryz.ntmps63
 go_wp2_with (go_at_call 105; refine (within_calls _ _ _ _).mono ?_; rintro e w' ⟨rfl, rfl⟩)
 go_loopw [13] (fun i wr => ∃ k : Nat, k <= ks.length /\ i = .int .i64 k /\ ks.all (kindB ks.length) = (ks.drop k).all (kindB ks.length) /\ Below w.heap.size w wr /\ BoxAt wr w.heap.size 42 #[.slice a ks.length cap, .int .i64 kind, .int .i64 arg]) (fun i _ => ks.length - (intOf i).toNat)
 case atStart => exact ⟨0, Nat.zero_le _, rfl, rfl, (Below.refl _ _).alloc (Nat.le_refl _) _, BoxAt.new _ _ _⟩
 case round =>
  obtain ⟨k, hk, rfl, hall, hb, hbox⟩ := hrel
  have HA : Hid (ks.all (kindB ks.length) = (ks.drop k).all (kindB ks.length)) := hall
  clear hall
  have HB : Hid (BoxAt wr w.heap.size 42 #[.slice a ks.length cap, .int .i64 kind, .int .i64 arg]) := hbox
  have hlt' := hbox.lt
  have b0 := hbox.cell (o := 0) rfl
  have b1 := hbox.cell (o := 1) rfl
  have b2 := hbox.cell (o := 2) rfl
  clear hbox
  by_cases hlt : k < ks.length
  ·obtain ⟨c, hcc⟩ : ∃ c, ks[k]? = some c := ⟨_, List.getElem?_eq_getElem hlt⟩
   obtain ⟨b, o, kv, rfl, hok, hbw, c0, c1, c2, hkk⟩ := hc k c hcc
   have d0 := (hb.cell (p := ⟨b, o + k * 3, none⟩) hbw).trans c0
   have d1 := (hb.cell (p := ⟨b, o + k * 3 + 1, none⟩) hbw).trans c1
   have d2 := (hb.cell (p := ⟨b, o + k * 3 + 2, none⟩) hbw).trans c2
   have HS : Hid ((ks.drop k).all (kindB ks.length) = (kindB ks.length c && (ks.drop (k + 1)).all (kindB ks.length))) := all_drop_get _ ks k c hcc
   have hcl := hl2 c (List.mem_of_getElem? hcc)
   obtain ⟨A, B, kids⟩ := c
   obtain ⟨a', cap', rfl, h'⟩ := hkk
   have HW : Hid (∀ o : Obj, Calls Tryz.prog 106 #[.agg #[.int .i64 A, .int .i64 B, .slice a' kids.length cap'], .int .i64 ks.length] (wr.alloc o) fun e w' => e = .returned (.bool (kindB ks.length ⟨A, B, kids⟩)) /\ Below (wr.alloc o).heap.size (wr.alloc o) w') := fun o =>
    isKind_calls A B ks.length _ kids (fun _ => True) (by omega) (by omega) _ (by
     refine ⟨a', cap', rfl, fun j c hj => ?_⟩
     obtain ⟨b', o', ha, _, hb', e0, e1⟩ := h' j c hj
     have hz := hb.size
     exact ⟨b', o', ha, trivial, by simp; omega, ((hb.trans ((Below.refl _ _).alloc hb.size _)).cell (p := ⟨b', _, none⟩) hb').trans e0, ((hb.trans ((Below.refl _ _).alloc hb.size _)).cell (p := ⟨b', _, none⟩) hb').trans e1⟩) (by simpa using hcl)
   simp only at d0 d1 d2
   clear hc h' c0 c1 c2
   by_cases hkB : kindB ks.length ⟨A, B, kids⟩ = true
   ·go_wp2_with fail
    refine (HW.out _).mono ?_
    rintro e w' ⟨rfl, hb1⟩
    go_wp2_with fail
    go_roundw
    case rel => exact ⟨k + 1, by omega, by go_num, by rw [HA.out, HS.out]; simp [hkB], (hb.trans ((Below.refl _ _).alloc hb.size _)).trans (hb1.mono (by have := hb.size; simp; omega)), (HB.out.alloc _).below hb1 (by simp; omega)⟩
    case measure => simp [intOf]; omega
   ·go_wp2_with fail
    refine (HW.out _).mono ?_
    rintro e w' ⟨rfl, hb1⟩
    go_wp2_with fail
    go_ret
    exact ⟨by simp only [progB]; rw [HA.out, HS.out]; simp [hkB], (hb.trans ((Below.refl _ _).alloc hb.size _)).trans (hb1.mono (by have := hb.size; simp; omega))⟩
  ·have hall : Hid (ks.all (kindB ks.length) = true) := by rw [HA.out, List.drop_eq_nil_of_le (by omega)]; rfl
   by_cases hn : numB kind ks.length = true
   ·go_wp2_with (first
      | (go_at_call 107; refine (isNumber_calls _ _ (by omega) (by omega) _).mono ?_; rintro e w' ⟨rfl, rfl⟩)
      | (go_at_call 105; refine (within_calls _ _ _ _).mono ?_; rintro e w' ⟨rfl, rfl⟩))
    go_ret
    exact ⟨by simp [progB, hall.out, hR, hn], hb⟩
   ·go_wp2_with (first
      | (go_at_call 107; refine (isNumber_calls _ _ (by omega) (by omega) _).mono ?_; rintro e w' ⟨rfl, rfl⟩)
      | (go_at_call 105; refine (within_calls _ _ _ _).mono ?_; rintro e w' ⟨rfl, rfl⟩))
    go_ret
    exact ⟨by simp [progB, hn], hb⟩
set_option maxHeartbeats 400000 in
theorem small_calls (i : Nat) (hi : i < 10) (w : World) :
  Calls Tryz.prog 200 #[.int .i64 i] w fun e w' => e = .returned (.string ⟨#[digit i]⟩) /\ w' = w := by
 have h : i = 0 \/ i = 1 \/ i = 2 \/ i = 3 \/ i = 4 \/ i = 5 \/ i = 6 \/ i = 7 \/ i = 8 \/ i = 9 := by omega
 rcases h with rfl | rfl | rfl | rfl | rfl | rfl | rfl | rfl | rfl | rfl
 all_goals
  go_enter Tryz.func200, Tryz.ntmps200
  go_wp2
  go_ret
  exact ⟨rfl, rfl⟩
set_option maxHeartbeats 400000 in
theorem formatInt_calls (i : Nat) (hi : i < 10) (w : World) :
  Calls Tryz.prog 190 #[.int .i64 i, .int .i64 10] w fun e w' => e = .returned (.string ⟨#[digit i]⟩) /\ w' = w := by
 go_enter Tryz.func190, Tryz.ntmps190
 go_wp2_with (go_at_call 200; refine (small_calls i hi _).mono ?_; rintro e w' ⟨rfl, rfl⟩)
 go_ret
 exact ⟨rfl, rfl⟩
set_option maxHeartbeats 400000 in
theorem itoa_calls (i : Nat) (hi : i < 10) (w : World) :
  Calls Tryz.prog 157 #[.int .i64 i] w fun e w' => e = .returned (.string ⟨#[digit i]⟩) /\ w' = w := by
 have h2 : Calls Tryz.prog 170 #[.int .i64 i] w fun e w' => e = .returned (.string ⟨#[digit i]⟩) /\ w' = w := by
  go_enter Tryz.func170, Tryz.ntmps170
  go_wp2_with (go_at_call 190; refine (formatInt_calls i hi _).mono ?_; rintro e w' ⟨rfl, rfl⟩)
  go_ret
  exact ⟨rfl, rfl⟩
 go_enter Tryz.func157, Tryz.ntmps157
 go_wp2_with (go_at_call 170; refine h2.mono ?_; rintro e w' ⟨rfl, rfl⟩)
 go_ret
 exact ⟨rfl, rfl⟩
set_option maxHeartbeats 400000 in
theorem first_calls (a : Option Addr) (len cap : Nat) (kind arg : Int) (w : World) :
  Calls Tryz.prog 71 #[.agg #[.slice a len cap, .int .i64 kind, .int .i64 arg]] w fun e w' => e = .returned (taskV ⟨⟨#[]⟩, kind, arg⟩) /\ Below w.heap.size w w' := by
 go_enter Tryz.func71, Tryz.ntmps71
 go_wp2
 refine bodyPost_ret (v := taskV ⟨⟨#[]⟩, kind, arg⟩) (by simp [results, Tryz.results71, go_sem, taskV]) rfl ⟨rfl, ?_⟩
 exact ((Below.refl _ _).alloc (Nat.le_refl _) _).alloc (by simp) _
set_option maxHeartbeats 1000000 in
theorem value_calls (kv : Value) (kind arg : Int) (ks : List KindS) (t : TaskS) (ok : Nat -> Prop) (w : World) (hk : KindsAt ok w kv ks) (hp : progB ks kind arg = true) (h0 : 0 <= t.kind) (h1 : t.kind < ks.length) (h2 : 0 <= t.arg) (h3 : t.arg <= 12) :
  Calls Tryz.prog 66 #[.agg #[kv, .int .i64 kind, .int .i64 arg], taskV t] w fun e w' => e = .returned (.agg #[.string t.id, .int .i64 (valueOf ks t)]) /\ Below w.heap.size w w' := by
 obtain ⟨id, k, x⟩ := t
 obtain ⟨a, cap, rfl, hc⟩ := hk
 simp only at h0 h1 h2 h3
 obtain ⟨j, rfl⟩ := Int.eq_ofNat_of_zero_le h0
 have hj : j < ks.length := by omega
 obtain ⟨c, hcc⟩ : ∃ c, ks[j]? = some c := ⟨_, List.getElem?_eq_getElem hj⟩
 obtain ⟨b, o, v, rfl, hok, hbw, c0, c1, c2, hkk⟩ := hc j c hcc
 obtain ⟨a', cap', rfl, h'⟩ := hkk
 have hkb : kindB ks.length c = true := by
  simp [progB] at hp
  exact hp.1.1.2 c (List.mem_of_getElem? hcc)
 have hA : -1000 <= c.A /\ c.A <= 1000 := by simp [kindB, rangeB] at hkb; omega
 have hB : -1000 <= c.B /\ c.B <= 1000 := by simp [kindB, rangeB] at hkb; omega
 have HV : Hid (valueOf ks ⟨id, (j : Int), x⟩ = c.A * x + c.B) := by simp [Hid, valueOf, kindAt, hcc]
 have hlen : ks.length <= 5 := by simp [progB, rangeB] at hp; omega
 have hm1 : -12000 <= c.A * x := by
  have := Int.mul_le_mul_of_nonneg_right hA.1 h2; omega
 have hm2 : c.A * x <= 12000 := by
  have := Int.mul_le_mul_of_nonneg_right hA.2 h2; omega
 clear hc h' hp hkb
 have e0 := cell_alloc3 c0
 have e1 := cell_alloc3 c1
 have e2 := cell_alloc3 c2
 unfold taskV
 go_enter Tryz.func66, Tryz.ntmps66
 go_wp2
 refine bodyPost_ret (v := .agg #[.string id, .int .i64 (c.A * x + c.B)]) (by simp [results, Tryz.results66, go_sem]) rfl ⟨?_, ?_⟩
 ·rw [HV.out]
 ·exact ((((Below.refl _ _).alloc (Nat.le_refl _) _).alloc (by simp) _).alloc (by simp; omega) _).alloc (by simp; omega) _
set_option maxHeartbeats 400000 in
theorem tasks_in (F : Fence) (n : Nat) (hf : F.fn 64) (hro : F.round = none) (a : Option Addr) (len cap : Nat) (kind arg : Int) (w : World) :
  CallsIn F n Tryz.prog 64 #[.agg #[.slice a len cap, .int .i64 kind, .int .i64 arg]] w fun e w' => e = .returned (.func (.func 108) #[] #[.pointer (some ⟨w.heap.size, 0, none⟩)]) /\ w' = w.alloc (.cells #[.slice a len cap, .int .i64 kind, .int .i64 arg] 42) := by
 refine callsIn_of_wp Tryz.func64 rfl hf ?_ hro
 simp only [Tryz.ntmps64, List.size_toArray, List.length_cons, List.length_nil, Nat.reduceAdd, Nat.reduceSub, Array.replicate_succ, Array.replicate_zero, List.push_toArray, List.append_toArray, List.nil_append, List.cons_append]
 gi_wp2
 go_ret
 exact ⟨rfl, rfl⟩
set_option maxHeartbeats 400000 in
theorem children_in (F : Fence) (n : Nat) (hf : F.fn 130) (hro : F.round = none) (a : Option Addr) (len cap : Nat) (kind arg : Int) (id : ByteArray) (k x : Int) (w : World) :
  CallsIn F n Tryz.prog 130 #[.agg #[.slice a len cap, .int .i64 kind, .int .i64 arg], .agg #[.string id, .int .i64 k, .int .i64 x]] w fun e w' =>
   e = .returned (.func (.func 156) #[] #[.pointer (some ⟨w.heap.size, 0, none⟩), .pointer (some ⟨w.heap.size + 1, 0, none⟩)]) /\
   w' = (w.alloc (.cells #[.slice a len cap, .int .i64 kind, .int .i64 arg] 42)).alloc (.cells #[.string id, .int .i64 k, .int .i64 x] 76) := by
 refine callsIn_of_wp Tryz.func130 rfl hf ?_ hro
 simp only [Tryz.ntmps130, List.size_toArray, List.length_cons, List.length_nil, Nat.reduceAdd, Nat.reduceSub, Array.replicate_succ, Array.replicate_zero, List.push_toArray, List.append_toArray, List.nil_append, List.cons_append]
 gi_wp2
 go_ret
 exact ⟨rfl, rfl⟩
end Go.Proofs.YteahdfeialekbaaGreatDoor
