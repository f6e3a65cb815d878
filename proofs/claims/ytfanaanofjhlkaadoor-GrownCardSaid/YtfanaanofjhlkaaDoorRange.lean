/-
  A loop over an iterator keeps whatever block its body does not turn, also where the iterator runs loops over iterators of its own: no premise but the iterator's contract and the walk of the body.
-/
import Derived.RangeFuncNested
import Derived.RangeFuncBound
import Derived.RangeFuncCalls
import Derived.RangeFuncLeaves
namespace Go.Proofs.YtfanaanofjhlkaaDoor
open Go Go.RowKit

/-- Between two worlds no block has turned but those that X names; there may be new ones. -/
structure Kept (X : Nat → Prop) (W W' : World) : Prop where
  os : W'.os = W.os
  tape : W'.tape = W.tape
  output : W'.output = W.output
  size : W.heap.size ≤ W'.heap.size
  block : ∀ k, k < W.heap.size → ¬ X k → W'.heap[k]? = W.heap[k]?

theorem Kept.refl (X : Nat → Prop) (W : World) : Kept X W W := ⟨rfl, rfl, rfl, Nat.le_refl _, fun _ _ _ => rfl⟩
theorem Kept.trans {X : Nat → Prop} {A B C : World} (h : Kept X A B) (k : Kept X B C) : Kept X A C :=
  ⟨k.os.trans h.os, k.tape.trans h.tape, k.output.trans h.output, Nat.le_trans h.size k.size,
   fun i hi hx => (k.block i (Nat.lt_of_lt_of_le hi h.size) hx).trans (h.block i hi hx)⟩
theorem Kept.mono {X Y : Nat → Prop} {A B : World} (h : Kept X A B) (hy : ∀ k, k < A.heap.size → X k → Y k) : Kept Y A B :=
  ⟨h.os, h.tape, h.output, h.size, fun k hk hx => h.block k hk (fun hX => hx (hy k hk hX))⟩
theorem Kept.of_below {X : Nat → Prop} {B : Nat} {W W' : World} (h : Below B W W') (hX : ∀ k, k < W.heap.size → B ≤ k → X k) : Kept X W W' :=
  ⟨h.os, h.tape, h.output, h.size, fun k hk hx => h.block k (Nat.lt_of_not_le fun hB => hx (hX k hk hB))⟩
theorem Kept.below {X : Nat → Prop} {B : Nat} {W W' : World} (h : Kept X W W') (hB : B ≤ W.heap.size) (hX : ∀ k, X k → B ≤ k) : Below B W W' :=
  ⟨h.os, h.tape, h.output, h.size, fun k hk => h.block k (Nat.lt_of_lt_of_le hk hB) (fun hx => Nat.not_lt_of_le (hX k hx) hk)⟩
theorem Kept.later {X : Nat → Prop} {A B C : World} (h : Kept X A B) {n : Nat} (hb : Below n B C) (hn : A.heap.size ≤ n) : Kept X A C :=
  ⟨hb.os.trans h.os, hb.tape.trans h.tape, hb.output.trans h.output, Nat.le_trans h.size hb.size, fun k hk hx => (hb.block k (Nat.lt_of_lt_of_le hk hn)).trans (h.block k hk hx)⟩
theorem Kept.heap {X : Nat → Prop} {W W' : World} (h : Kept X W W') {k : Nat} {o : Obj} (hk : W.heap[k]? = some o) (hx : ¬ X k) : W'.heap[k]? = some o :=
  (h.block k (Array.getElem?_eq_some_iff.1 hk).1 hx).trans hk
theorem Kept.alloc (X : Nat → Prop) (W : World) (o : Obj) : Kept X W (W.alloc o) :=
  Kept.of_below ((Below.refl W.heap.size W).alloc (Nat.le_refl _) o) (fun _ h h' => absurd h (Nat.not_lt_of_le h'))
theorem Kept.grown {X : Nat → Prop} {W W' : World} {row : Option Nat} (hg : W.grownBy W' row) (hx : ∀ r, row = some r → X r) : Kept X W W' :=
  ⟨hg.os, hg.tape, hg.output, hg.size, fun k hk hn => hg.block k hk (fun e => hn (hx k e.symm))⟩
theorem Kept.putObj {X : Nat → Prop} (W : World) (l : Nat) (o : Obj) (hx : X l) : Kept X W (W.putObj l o) :=
  Kept.grown (grownBy_putObj' W l o) (fun r e => by cases e; exact hx)
theorem Kept.cell {X : Nat → Prop} {W W' : World} (h : Kept X W W') {p : Addr} (hk : p.block < W.heap.size) (hx : ¬ X p.block) : W'.cell? p = W.cell? p :=
  World.cell?_of_block (w := W) (h.block p.block hk hx)
theorem Kept.frozen {X : Nat → Prop} {W W' : World} (h : Kept X W W') {p : Addr} (hk : p.block < W.heap.size) (hx : ¬ X p.block) : W'.frozen? p = W.frozen? p :=
  World.frozen?_of_block (w := W) (h.block p.block hk hx)
theorem Kept.drew {X : Nat → Prop} {A W : World} (h : Kept X A W) : Kept X A W.drew := ⟨h.os, h.tape, h.output, h.size, h.block⟩
theorem Kept.setCell {X : Nat → Prop} {A W : World} (h : Kept X A W) {p : Addr} (hp : X p.block ∨ A.heap.size ≤ p.block) (u : Value) : Kept X A (W.setCell p u) := by
  have b : Below p.block W (W.setCell p u) := (Below.refl _ W).setCell (Nat.le_refl _) u
  refine ⟨b.os.trans h.os, b.tape.trans h.tape, b.output.trans h.output, Nat.le_trans h.size b.size, fun k hk hx => ?_⟩
  refine (Below.heap_setCell W p u k (fun e => ?_)).trans (h.block k hk hx)
  subst e
  rcases hp with hp | hp
  · exact hx hp
  · omega

theorem Kept.andThen {X Y : Nat → Prop} {A B C : World} (h : Kept X A B) (k : Kept Y B C) (hy : ∀ b, b < A.heap.size → Y b → X b) : Kept X A C :=
  ⟨k.os.trans h.os, k.tape.trans h.tape, k.output.trans h.output, Nat.le_trans h.size k.size, fun b hb hx => (k.block b (Nat.lt_of_lt_of_le hb h.size) (fun hY => hx (hy b hb hY))).trans (h.block b hb hx)⟩

/-- The contract of an iterator's value, called in W: X names the blocks that a round that goes on may turn; a round that says 'no more' may turn whatever lay when the iterator began. -/
def SeqX {α : Type} (F : Fence) (n : Nat) (P : Program) (g : Nat) (lb : Array Value) (encs : α → Array Value) (X : Nat → Prop) (S Sp : List α → Prop) (W : World) : Prop :=
  ∀ (l : Nat) (J Jx : List α → World → Prop), (∀ s A B, J s A → Below W.heap.size A B → J s B) → (∀ s A B, Jx s A → Below W.heap.size A B → Jx s B) →
    (∀ pre x W1, J pre W1 → W.heap.size ≤ W1.heap.size → YieldAt F (n - 1) P l (encs x) W1 fun e W' =>
      (e = .returned (.bool true) ∧ J (pre ++ [x]) W' ∧ Kept X W1 W') ∨ (e = .returned (.bool false) ∧ Jx (pre ++ [x]) W' ∧ Kept (· < W.heap.size) W1 W')) →
    J [] W →
    CallsIn F n P g (#[.func (.yield l) #[] #[]] ++ lb) W fun e W' => (∃ v, e = .returned v) ∧ ((∃ xs, S xs ∧ J xs W') ∨ (∃ pre, Sp pre ∧ Jx pre W'))

/-- How the body of a round may be left: B: the heap's size where the loop begins. -/
def roundEnds {α : Type} (B : Nat) (X : Nat → Prop) (I : List α → World → Prop) (Ix : Code → List α → World → Prop) (xs : List α) (W : World) : Exit → Act → World → Prop
  | .normal, _, W' => Kept X W W' ∧ I xs W'
  | .ret, _, W' => Kept (· < B) W W' ∧ Ix .ret xs W'
  | .exit id, _, W' => Kept (· < B) W W' ∧ Ix (.exit id) xs W'
  | .goto t, _, W' => Kept (· < B) W W' ∧ Ix (.goto t) xs W'
  | .panic _, _, _ => False
  | .outgrown, _, _ => False

variable {F : Fence} {n : Nat} {P : Program}

/-- The law of a loop over an iterator, outside every round. -/
theorem range_law {α : Type} {g : Operand} {ps : Array Tmp} {assign body : Code} {Q : Exit → Act → World → Prop} {a : Act} {w : World}
    (hro : F.round = none) (h1 : F.depth.isSome = true → 1 ≤ n) {gf : Nat} {lb : Array Value} (hg : a.eval g = .func (.func gf) #[] lb) (hFg : F.fn gf) (eg : ∀ args w, (callFunc gf args).run P w = .ok (.enter gf args) w)
    {encs : α → Array Value} {S Sp : List α → Prop} (X : Nat → Prop) (hX : ∀ k, X k → k < w.heap.size)
    (hseq : ∀ W, Below w.heap.size w W → W.heap.size = w.heap.size + 2 → SeqX F (n - 1) P gf lb encs (fun k => X k ∨ k = w.heap.size + 1) S Sp W)
    (hps : ∀ x, (encs x).size = ps.size)
    (I : List α → World → Prop) (Ix : Code → List α → World → Prop) (hI : ∀ s A B, I s A → Below w.heap.size A B → I s B) (hIx : ∀ c s A B, Ix c s A → Below w.heap.size A B → Ix c s B) (h0 : I [] w)
    (Ax : List α → α → Act → World → Prop) (hAx : ∀ pre x a' A B, Ax pre x a' A → Kept (· = w.heap.size + 1) A B → Ax pre x a' B)
    (hassign : ∀ (l : Nat) (pre : List α) (x : α) (W : World) (K : Act → World → Prop), I pre W → w.heap.size + 2 ≤ W.heap.size → (∀ a' W', Kept X W W' → I pre W' → Ax pre x a' W' → K a' W') →
      assign.wpIn (F.inRound l) (n - 1 - 1) P (Exit.then K (fun _ _ _ => False)) { tmps := (ps.zip (encs x)).foldl (fun t (p, v) => t.setIfInBounds p v) a.tmps, defers := [] } W)
    (hbody : ∀ (l : Nat) (pre : List α) (x : α) (a' : Act) (W : World), I pre W → Ax pre x a' W → w.heap.size + 2 ≤ W.heap.size → body.wpIn (F.inRound l) (n - 1 - 1) P (roundEnds w.heap.size X I Ix (pre ++ [x]) W) a' W)
    (hdone : ∀ (D : Nat) (xs : List α) (W : World), w.heap.size ≤ D → S xs → I xs W → W.heap[D]? = some (.deferred (some [])) → Q .normal { a with defers := { target := .collected D, args := #[] } :: a.defers } W)
    (hstop : ∀ (D : Nat) (c : Code) (pre : List α) (W : World), w.heap.size ≤ D → Sp pre → Ix c pre W → W.heap[D]? = some (.deferred (some [])) → c.wpIn F n P Q { a with defers := { target := .collected D, args := #[] } :: a.defers } W) :
    (Code.rangeFunc g ps assign body).wpIn F n P Q a w := by
  refine wpIn_rangeFunc fun fn hfn => ?_
  rw [hro]
  -- the loop's record in the state st, with the jump that is pending
  obtain ⟨rec, hrec⟩ : ∃ rec : LoopState → Option Code → Loop, rec = fun st pe => { state := st, pending := pe, fn, tmps := a.tmps, params := ps, assign, body, defers := w.heap.size } := ⟨_, rfl⟩
  obtain ⟨V, hV⟩ : ∃ V, (w.alloc (.deferred (some []))).alloc (.loop (rec .ready none)) = V := ⟨_, rfl⟩
  have vsize : V.heap.size = w.heap.size + 2 := by rw [← hV]; simp
  have vbelow : Below w.heap.size w V := by
    rw [← hV]; exact ((Below.refl _ w).alloc (Nat.le_refl _) _).alloc (by simp) _
  have vloop : V.heap[w.heap.size + 1]? = some (.loop (rec .ready none)) := by
    have h := World.alloc_heap_new (w.alloc (.deferred (some []))) (.loop (rec .ready none))
    rw [World.size_alloc] at h; rw [← hV]; exact h
  have vdef : V.heap[w.heap.size]? = some (.deferred (some [])) := by
    rw [← hV]; exact (Below.heap_alloc _ _ _ (by simp)).trans (World.alloc_heap_new w _)
  refine ⟨w.heap.size + 1, [{ target := .collected w.heap.size, args := #[] }], V, { target := .fn (.func gf) lb, args := #[.func (.yield (w.heap.size + 1)) #[] #[]] }, V, gf,
    #[.func (.yield (w.heap.size + 1)) #[] #[]] ++ lb, V, ?_, ?_, ?_, ?_, h1, ?_⟩
  · rw [← hV, hrec]; exact run_enterLoop_outer _ _ _ _ _
  · simp only [resolve, hg]; simp [go_sem]
  · intro f' hf'; simp [Target.leads] at hf'; subst hf'; exact hFg
  · simp [invoke, go_sem, eg]
  have lift : ∀ {A B : World}, Below V.heap.size A B → Below w.heap.size A B := fun h => h.mono (by omega)
  refine (hseq V vbelow vsize (w.heap.size + 1)
      (fun pre W => I pre W ∧ W.heap[w.heap.size + 1]? = some (.loop (rec .ready none)) ∧ W.heap[w.heap.size]? = some (.deferred (some [])))
      (fun pre W => ∃ c, Ix c pre W ∧ W.heap[w.heap.size + 1]? = some (.loop (rec .done (some c))) ∧ W.heap[w.heap.size]? = some (.deferred (some [])))
      (fun s A B hs hb => ⟨hI s A B hs.1 (lift hb), (hb.block _ (by omega)).trans hs.2.1, (hb.block _ (by omega)).trans hs.2.2⟩)
      (fun s A B hs hb => by
        obtain ⟨c, hc, hl, hk⟩ := hs
        exact ⟨c, hIx c s A B hc (lift hb), (hb.block _ (by omega)).trans hl, (hb.block _ (by omega)).trans hk⟩)
      ?_ ⟨hI _ _ _ h0 vbelow, vloop, vdef⟩).mono ?_
  · rintro pre x W ⟨hi, hl, hk⟩ hsz
    rw [vsize] at hsz
    have hy := run_yield (P := P) (args := encs x) hl (by rw [hrec]; exact hps x)
    rw [hrec] at hy
    refine ⟨fn, _, assign, body, hy, roundIn_of_wpIn hfn (hassign _ pre x W _ hi hsz fun a' U kU iU aU => ?_)⟩
    clear hy
    have nX : ∀ k, w.heap.size ≤ k → ¬ X k := fun k hk hx => Nat.not_lt_of_le hk (hX k hx)
    have ul := kU.heap hl (nX _ (by omega))
    have uk := kU.heap hk (nX _ (Nat.le_refl _))
    have usz : w.heap.size + 2 ≤ U.heap.size := Nat.le_trans hsz kU.size
    refine ⟨_, run_beginRound ul (by rw [hrec]), ?_⟩
    obtain ⟨T, hT⟩ : ∃ T, U.putObj (w.heap.size + 1) (.loop { rec .ready none with state := .busy }) = T := ⟨_, rfl⟩
    rw [hT]
    have kT : Kept (· = w.heap.size + 1) U T := by rw [← hT]; exact Kept.putObj _ _ _ rfl
    have tl : T.heap[w.heap.size + 1]? = some (.loop { rec .ready none with state := .busy }) := by rw [← hT]; exact World.putObj_heap_same (by omega)
    have tk : T.heap[w.heap.size]? = some (.deferred (some [])) := kT.heap uk (by omega)
    have toB : ∀ {A B : World}, w.heap.size ≤ A.heap.size → Kept (· = w.heap.size + 1) A B → Below w.heap.size A B := fun h k => k.below h (fun _ e => by omega)
    refine wpIn_mono (hbody _ pre x a' T (hI _ _ _ iU (toB (by omega) kT)) (hAx _ _ _ _ _ aU kT) (Nat.le_trans usz kT.size)) ?_
    -- behind the body: the record is turned back
    have fin : ∀ (jump : Option Code) (Z : World), Kept (· < w.heap.size) T Z → ∃ Z', (Instr.endRound (w.heap.size + 1) jump).run P Z = .ok (.bool jump.isNone) Z' ∧
        Kept (· = w.heap.size + 1) Z Z' ∧ Z'.heap[w.heap.size + 1]? = some (.loop (rec (if jump.isNone then .ready else .done) jump)) ∧ Z'.heap[w.heap.size]? = some (.deferred (some [])) := fun jump Z kZ => by
      have zl := kZ.heap tl (by omega)
      have zk := kZ.heap tk (by omega)
      have zr := run_endRound (P := P) jump zl
      rw [hrec] at zr zl ⊢
      exact ⟨_, zr, Kept.putObj _ _ _ rfl, World.putObj_heap_same (Array.getElem?_eq_some_iff.1 zl).1, (World.putObj_heap_other (by omega)).trans zk⟩
    have kS : ∀ {Z : World}, Kept X T Z → Kept (· < w.heap.size) T Z := fun h => h.mono (fun k _ hx => hX k hx)
    have leave : ∀ (c : Code) (Z : World), Kept (· < w.heap.size) T Z → Ix c (pre ++ [x]) Z → ∃ v Z', (Instr.endRound (w.heap.size + 1) (some c)).run P Z = .ok v Z' ∧
        ((Ending.returned v = .returned (.bool true) ∧ (I (pre ++ [x]) Z' ∧ Z'.heap[w.heap.size + 1]? = some (.loop (rec .ready none)) ∧ Z'.heap[w.heap.size]? = some (.deferred (some []))) ∧ Kept (fun k => X k ∨ k = w.heap.size + 1) W Z') ∨
         (Ending.returned v = .returned (.bool false) ∧ (∃ c, Ix c (pre ++ [x]) Z' ∧ Z'.heap[w.heap.size + 1]? = some (.loop (rec .done (some c))) ∧ Z'.heap[w.heap.size]? = some (.deferred (some []))) ∧ Kept (· < V.heap.size) W Z')) := fun c Z kZ hi3 => by
      obtain ⟨Z', hr, kZ', hl4, hk4⟩ := fin (some c) Z kZ
      refine ⟨_, Z', hr, .inr ⟨rfl, ⟨c, hIx c _ _ _ hi3 (toB (Nat.le_trans (by omega) (Nat.le_trans kT.size kZ.size)) kZ'), hl4, hk4⟩, ?_⟩⟩
      have b1 : Kept (· < V.heap.size) W U := kU.mono (fun k _ hx => by have := hX k hx; omega)
      exact ((b1.trans (kT.mono (fun k _ e => by omega))).trans (kZ.mono (fun k _ e => by omega))).trans (kZ'.mono (fun k _ e => by omega))
    rintro e a3 Z hp
    cases e with
    | normal =>
      obtain ⟨kZ, hi3⟩ := hp
      obtain ⟨Z', hr, kZ', hl4, hk4⟩ := fin none Z (kS kZ)
      refine ⟨_, Z', hr, .inl ⟨rfl, ⟨hI _ _ _ hi3 (toB (Nat.le_trans (by omega) (Nat.le_trans kT.size kZ.size)) kZ'), hl4, hk4⟩, ?_⟩⟩
      exact (((kU.mono (fun k _ h => .inl h)).trans (kT.mono (fun k _ h => .inr h))).trans (kZ.mono (fun k _ h => .inl h))).trans (kZ'.mono (fun k _ h => .inr h))
    | ret => exact leave .ret Z hp.1 hp.2
    | exit id => exact leave (.exit id) Z hp.1 hp.2
    | goto t => exact leave (.goto t) Z hp.1 hp.2
    | panic ch => exact hp.elim
    | outgrown => exact hp.elim
  · rintro e Z ⟨⟨v, rfl⟩, (⟨xs, hS, hi, hl, hk⟩ | ⟨pre, hSp, c, hi, hl, hk⟩)⟩
    · have hlt := (Array.getElem?_eq_some_iff.1 hl).1
      refine ⟨none, _, by have := run_endLoop (P := P) hl (by rw [hrec]; simp); rw [hrec] at this; exact this, hdone _ xs _ (Nat.le_refl _) hS (hI _ _ _ hi ?_) ((World.putObj_heap_other (by omega)).trans hk)⟩
      exact (Kept.putObj (X := (· = w.heap.size + 1)) _ _ _ rfl).below (by omega) (fun _ e => by omega)
    · have hlt := (Array.getElem?_eq_some_iff.1 hl).1
      refine ⟨some c, _, by have := run_endLoop (P := P) hl (by rw [hrec]; simp); rw [hrec] at this; exact this, hstop _ c pre _ (Nat.le_refl _) hSp (hIx c _ _ _ hi ?_) ((World.putObj_heap_other (by omega)).trans hk)⟩
      exact (Kept.putObj (X := (· = w.heap.size + 1)) _ _ _ rfl).below (by omega) (fun _ e => by omega)

end Go.Proofs.YtfanaanofjhlkaaDoor
