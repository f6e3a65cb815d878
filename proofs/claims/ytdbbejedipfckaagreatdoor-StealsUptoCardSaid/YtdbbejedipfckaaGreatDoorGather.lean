/-
  A loop over an iterator that turns nothing itself: its rounds may turn whatever they made, and end at their end; and two such iterators, a task's children and a list's elements.
-/
import Derived.Test.YtdbbejedipfckaaGreatDoorRefWork
import Derived.Test.YtdbbejedipfckaaGreatDoorKids
namespace Go.Proofs.YtdbbejedipfckaaGreatDoor
open Go Go.RowKit Go.Shelf

/-- The contract of an iterator's value, called in W, that tells L and turns nothing: X names the blocks that a round may turn. -/
def SeqY {α : Type} (F : Fence) (n : Nat) (P : Program) (g : Nat) (lb : Array Value) (encs : α → Array Value) (X : Nat → Prop) (L : List α) (W : World) : Prop :=
  ∀ (l : Nat) (J : List α → World → Prop), (∀ s A B, J s A → Below A.heap.size A B → J s B) →
    (∀ pre x W1, J pre W1 → W.heap.size ≤ W1.heap.size → pre ++ [x] <+: L → YieldAt F (n - 1) P l (encs x) W1 fun e W' => e = .returned (.bool true) ∧ J (pre ++ [x]) W' ∧ Kept X W1 W') →
    J [] W →
    CallsIn F n P g (#[.func (.yield l) #[] #[]] ++ lb) W fun e W' => (∃ v, e = .returned v) ∧ J L W'

/-- How a round may be left: at its end alone. -/
def roundOn {α : Type} (X : Nat → Prop) (I : List α → World → Prop) (xs : List α) (W : World) : Exit → Act → World → Prop
  | .normal, _, W' => Kept X W W' ∧ I xs W'
  | _, _, _ => False

section
variable {F : Fence} {n : Nat} {P : Program}
/-- The law of such a loop, outside every round. -/
theorem range_lawY {α : Type} {g : Operand} {ps : Array Tmp} {assign body : Code} {Q : Exit → Act → World → Prop} {a : Act} {w : World}
    (hro : F.round = none) (h1 : F.depth.isSome = true → 1 ≤ n) {gf : Nat} {lb : Array Value} (hg : a.eval g = .func (.func gf) #[] lb) (hFg : F.fn gf) (eg : ∀ args w, (callFunc gf args).run P w = .ok (.enter gf args) w)
    {encs : α → Array Value} {L : List α} (X : Nat → Prop) (hX : ∀ k, X k → k ≠ w.heap.size ∧ k ≠ w.heap.size + 1)
    (hseq : ∀ W, Below w.heap.size w W → W.heap.size = w.heap.size + 2 → SeqY F (n - 1) P gf lb encs (fun k => X k ∨ k = w.heap.size + 1) L W)
    (hps : ∀ x, (encs x).size = ps.size)
    (I : List α → World → Prop) (hI : ∀ s A B, I s A → Kept (· = w.heap.size + 1) A B → I s B) (h0 : I [] w)
    (Ax : List α → α → Act → World → Prop) (hAx : ∀ pre x a' A B, Ax pre x a' A → Kept (· = w.heap.size + 1) A B → Ax pre x a' B)
    (hassign : ∀ (l : Nat) (pre : List α) (x : α) (W : World) (K : Act → World → Prop), pre ++ [x] <+: L → I pre W → w.heap.size + 2 ≤ W.heap.size → (∀ a' W', Kept X W W' → I pre W' → Ax pre x a' W' → K a' W') →
      assign.wpIn (F.inRound l) (n - 1 - 1) P (Exit.then K (fun _ _ _ => False)) { tmps := (ps.zip (encs x)).foldl (fun t (p, v) => t.setIfInBounds p v) a.tmps, defers := [] } W)
    (hbody : ∀ (l : Nat) (pre : List α) (x : α) (a' : Act) (W : World), pre ++ [x] <+: L → I pre W → Ax pre x a' W → w.heap.size + 2 ≤ W.heap.size → body.wpIn (F.inRound l) (n - 1 - 1) P (roundOn X I (pre ++ [x]) W) a' W)
    (hdone : ∀ (D : Nat) (W : World), w.heap.size ≤ D → I L W → W.heap[D]? = some (.deferred (some [])) → Q .normal { a with defers := { target := .collected D, args := #[] } :: a.defers } W) :
    (Code.rangeFunc g ps assign body).wpIn F n P Q a w := by
  refine wpIn_rangeFunc fun fn hfn => ?_
  rw [hro]
  -- the loop's record in the state st, with the jump that is pending
  obtain ⟨rec, hrec⟩ : ∃ rec : LoopState → Option Code → Loop, rec = fun st pe => { state := st, pending := pe, fn, tmps := a.tmps, params := ps, assign, body, defers := w.heap.size } := ⟨_, rfl⟩
  obtain ⟨V, hV⟩ : ∃ V, (w.alloc (.deferred (some []))).alloc (.loop (rec .ready none)) = V := ⟨_, rfl⟩
  have vsize : V.heap.size = w.heap.size + 2 := by rw [← hV]; simp
  have vbelow : Below w.heap.size w V := by
    rw [← hV]; exact ((Below.refl _ w).alloc (Nat.le_refl _) _).alloc (by simp) _
  have vloop : V.heap[w.heap.size + 1]? = some (.loop (rec .ready none)) := by
    have h := World.alloc_heap_new (w.alloc (.deferred (some []))) (.loop (rec .ready none))
    rw [World.size_alloc] at h; rw [← hV]; exact h
  have vdef : V.heap[w.heap.size]? = some (.deferred (some [])) := by
    rw [← hV]; exact (Below.heap_alloc _ _ _ (by simp)).trans (World.alloc_heap_new w _)
  refine ⟨w.heap.size + 1, [{ target := .collected w.heap.size, args := #[] }], V, { target := .fn (.func gf) lb, args := #[.func (.yield (w.heap.size + 1)) #[] #[]] }, V, gf,
    #[.func (.yield (w.heap.size + 1)) #[] #[]] ++ lb, V, ?_, ?_, ?_, ?_, h1, ?_⟩
  · rw [← hV, hrec]; exact run_enterLoop_outer _ _ _ _ _
  · simp only [resolve, hg]; simp [go_sem]
  · intro f' hf'; simp [Target.leads] at hf'; subst hf'; exact hFg
  · simp [invoke, go_sem, eg]
  have vkept : Kept (· = w.heap.size + 1) w V := Kept.of_below vbelow (fun k h1 h2 => by omega)
  refine (hseq V vbelow vsize (w.heap.size + 1)
      (fun pre W => I pre W ∧ W.heap[w.heap.size + 1]? = some (.loop (rec .ready none)) ∧ W.heap[w.heap.size]? = some (.deferred (some [])))
      (fun s A B hs hb => ⟨hI s A B hs.1 (Kept.of_below hb (fun k h1 h2 => by omega)), (hb.block _ (Array.getElem?_eq_some_iff.1 hs.2.1).1).trans hs.2.1, (hb.block _ (Array.getElem?_eq_some_iff.1 hs.2.2).1).trans hs.2.2⟩)
      ?_ ⟨hI _ _ _ h0 vkept, vloop, vdef⟩).mono ?_
  · rintro pre x W ⟨hi, hl, hk⟩ hsz hxL
    rw [vsize] at hsz
    have hy := run_yield (P := P) (args := encs x) hl (by rw [hrec]; exact hps x)
    rw [hrec] at hy
    refine ⟨fn, _, assign, body, hy, roundIn_of_wpIn hfn (hassign _ pre x W _ hxL hi hsz fun a' U kU iU aU => ?_)⟩
    clear hy
    have n1 : ¬ X (w.heap.size + 1) := fun h => (hX _ h).2 rfl
    have n0 : ¬ X w.heap.size := fun h => (hX _ h).1 rfl
    have ul := kU.heap hl n1
    have uk := kU.heap hk n0
    have usz : w.heap.size + 2 ≤ U.heap.size := Nat.le_trans hsz kU.size
    refine ⟨_, run_beginRound ul (by rw [hrec]), ?_⟩
    obtain ⟨T, hT⟩ : ∃ T, U.putObj (w.heap.size + 1) (.loop { rec .ready none with state := .busy }) = T := ⟨_, rfl⟩
    rw [hT]
    have kT : Kept (· = w.heap.size + 1) U T := by rw [← hT]; exact Kept.putObj _ _ _ rfl
    have tl : T.heap[w.heap.size + 1]? = some (.loop { rec .ready none with state := .busy }) := by rw [← hT]; exact World.putObj_heap_same (by omega)
    have tk : T.heap[w.heap.size]? = some (.deferred (some [])) := kT.heap uk (by omega)
    refine wpIn_mono (hbody _ pre x a' T hxL (hI _ _ _ iU kT) (hAx _ _ _ _ _ aU kT) (Nat.le_trans usz kT.size)) ?_
    rintro e a3 Z hp
    cases e with
    | normal =>
      obtain ⟨kZ, hi3⟩ := hp
      have zl := kZ.heap tl n1
      have zk := kZ.heap tk n0
      have zr := run_endRound (P := P) none zl
      rw [hrec] at zr zl
      refine ⟨_, _, zr, rfl, ⟨hI _ _ _ hi3 (Kept.putObj _ _ _ rfl), ?_, (World.putObj_heap_other (by omega)).trans zk⟩, ?_⟩
      · rw [hrec]; exact World.putObj_heap_same (Array.getElem?_eq_some_iff.1 zl).1
      · exact (((kU.mono (fun k _ h => .inl h)).trans (kT.mono (fun k _ h => .inr h))).trans (kZ.mono (fun k _ h => .inl h))).trans (Kept.putObj _ _ _ (.inr rfl))
    | ret => exact hp.elim
    | exit id => exact hp.elim
    | goto t => exact hp.elim
    | panic ch => exact hp.elim
    | outgrown => exact hp.elim
  · rintro e Z ⟨⟨v, rfl⟩, hi, hl, hk⟩
    have hlt := (Array.getElem?_eq_some_iff.1 hl).1
    exact ⟨none, _, by have := run_endLoop (P := P) hl (by rw [hrec]; simp); rw [hrec] at this; exact this, hdone _ _ (Nat.le_refl _) (hI _ _ _ hi (Kept.putObj _ _ _ rfl)) ((World.putObj_heap_other (by omega)).trans hk)⟩
end

attribute [local go_sem] Oper.semAt_some

set_option maxHeartbeats 1000000 in
set_option maxRecDepth 100000 in
theorem children1_seqY (n : Nat) (Bp Bt : Nat) (X ok : Nat → Prop) (a : Option Addr) (cap : Nat) (kind arg : Int) (ks : List KindS) (t : TaskS) (L : List TaskS) (hL : children ks t = L) (W : World)
    (hp : BoxAt W Bp 42 #[.slice a ks.length cap, .int .i64 kind, .int .i64 arg]) (ht : BoxAt W Bt 76 #[.string t.id, .int .i64 t.kind, .int .i64 t.arg])
    (hk : KindsAt ok W (.slice a ks.length cap) ks) (hX : ∀ b, ok b → ¬ X b) (hXt : ¬ X Bt)
    (hprog : progB ks kind arg = true) (h0 : 0 ≤ t.kind) (h1 : t.kind < ks.length) (h2 : 0 ≤ t.arg) (h3 : t.arg ≤ 12) (h4 : t.id.size ≤ 12) :
    SeqY Fence.wide n Tryz.prog 150 #[.pointer (some ⟨Bp, 0, none⟩), .pointer (some ⟨Bt, 0, none⟩)] (fun c : TaskS => #[taskV c]) X L W := by
  intro l J hJ hY hJ0
  obtain ⟨id, k, x⟩ := t
  obtain ⟨a', cap', hs, hc⟩ := hk
  simp only [Value.slice.injEq] at hs
  obtain ⟨rfl, -, rfl⟩ := hs
  simp only at h0 h1 h2 h3 h4 ht
  obtain ⟨j, rfl⟩ := Int.eq_ofNat_of_zero_le h0
  have hj : j < ks.length := by omega
  obtain ⟨c, hcc⟩ : ∃ c, ks[j]? = some c := ⟨_, List.getElem?_eq_getElem hj⟩
  obtain ⟨b, o, v, rfl, hok, hbw, c0, c1, c2, hkk⟩ := hc j c hcc
  obtain ⟨a', cap', rfl, h'⟩ := hkk
  have hkb : kindB ks.length c = true := by
    simp [progB] at hprog
    exact hprog.1.1.2 c (List.mem_of_getElem? hcc)
  have hlen : ks.length ≤ 5 := by simp [progB, rangeB] at hprog; omega
  have hkl : c.kids.length ≤ 3 := by simp [kindB] at hkb; exact hkb.1.2
  have hkids : ∀ d ∈ c.kids, 1 ≤ d.less ∧ d.less ≤ 9 ∧ 0 ≤ d.kind ∧ d.kind < ks.length := by
    intro d hd; simp [kindB, kidB, numB, rangeB] at hkb; have := hkb.2 d hd; omega
  have HC : Hid (L = childrenFrom id x 0 c.kids) := by rw [← hL]; simp [Hid, children, kindAt, hcc]
  have p0 := hp.cell (o := 0) rfl
  have t0 := ht.cell (o := 0) rfl
  have t1 := ht.cell (o := 1) rfl
  have t2 := ht.cell (o := 2) rfl
  clear hprog hkb hc hL
  refine callsIn_of_wp Tryz.func150 rfl trivial ?_ rfl
  simp only [Tryz.ntmps150, List.size_toArray, List.length_cons, List.length_nil, Nat.reduceAdd, Nat.reduceSub, Array.replicate_succ, Array.replicate_zero, List.push_toArray, List.append_toArray, List.nil_append, List.cons_append]
  gi_wp2
  gi_loopw [15] (fun i wr => ∃ (m : Nat) (pre : List TaskS), m ≤ c.kids.length ∧ i = .int .i64 m ∧ L = pre ++ childrenFrom id x m (c.kids.drop m) ∧ J pre wr ∧ Kept (fun k => X k ∨ W.heap.size ≤ k) W wr)
    (fun i _ => c.kids.length - (intOf i).toNat)
  case atStart => exact ⟨0, [], Nat.zero_le _, rfl, HC.out, hJ0, Kept.refl _ _⟩
  case round =>
    obtain ⟨m, pre, hm, rfl, hpre, hJs, hkw⟩ := hrel
    have HP : Hid (L = pre ++ childrenFrom id x m (c.kids.drop m)) := hpre
    clear hpre
    have nt : ¬ (X Bt ∨ W.heap.size ≤ Bt) := fun h => h.elim hXt (fun h => Nat.not_lt_of_le h ht.lt)
    have u0 := (ht.kept hkw nt).cell (o := 0) rfl
    have u1 := (ht.kept hkw nt).cell (o := 1) rfl
    have u2 := (ht.kept hkw nt).cell (o := 2) rfl
    have hbt := (ht.kept hkw nt).lt
    by_cases hlt : m < c.kids.length
    · obtain ⟨d, hd⟩ : ∃ d, c.kids[m]? = some d := ⟨_, List.getElem?_eq_getElem hlt⟩
      obtain ⟨b', o', rfl, hok', hbw', d0, d1⟩ := h' m d hd
      have nb : ¬ (X b' ∨ W.heap.size ≤ b') := fun h => h.elim (hX b' hok') (fun h => Nat.not_lt_of_le h hbw')
      have f0 := (hkw.cell (p := ⟨b', o' + m * 2, none⟩) hbw' nb).trans d0
      have f1 := (hkw.cell (p := ⟨b', o' + m * 2 + 1, none⟩) hbw' nb).trans d1
      obtain ⟨hl1, hl9, hk0, hk1⟩ := hkids d (List.mem_of_getElem? hd)
      have v0 := fun o => cell_alloc o u0
      have v2 := fun o => cell_alloc o u2
      have HG : Hid (childrenFrom id x m (c.kids.drop m) = if d.less ≤ x then ⟨kidId id m, d.kind, x - d.less⟩ :: childrenFrom id x (m + 1) (c.kids.drop (m + 1)) else childrenFrom id x (m + 1) (c.kids.drop (m + 1))) := childrenFrom_get id x c.kids m d hd
      by_cases hless : d.less ≤ x
      · gi_wp2
        refine wpIn_wide.2 ?_
        have g0 := (BoxAt.new wr 108 #[Value.int IntKind.i64 d.kind, Value.int IntKind.i64 d.less]).cell (o := 0) rfl
        have g1 := (BoxAt.new wr 108 #[Value.int IntKind.i64 d.kind, Value.int IntKind.i64 d.less]).cell (o := 1) rfl
        have z1 : ¬ 9223372036854775807 < id.size + 1 := by omega
        have z2 : id.size < 9223372036854775807 := by omega
        have z3 : IntKind.i64.wrap (x - d.less) = x - d.less := IntWalk.i64_in _ (by omega)
        go_region_held3 (fun w' => w'.cell? ⟨Bt, 0, none⟩ = some (.string id) ∧ w'.cell? ⟨Bt, 2, none⟩ = some (.int .i64 x) ∧ w'.cell? ⟨wr.heap.size, 0, none⟩ = some (.int .i64 d.kind) ∧ w'.cell? ⟨wr.heap.size, 1, none⟩ = some (.int .i64 d.less)) (go_keep)
          (first | (go_at_call 151; refine (itoa_calls m (by omega) _).mono ?_; rintro e w' ⟨rfl, rfl⟩))
        all_goals
          obtain ⟨V, hV⟩ : ∃ V, ((wr.alloc (Obj.cells #[Value.int IntKind.i64 d.kind, Value.int IntKind.i64 d.less] 108)).alloc (Obj.cells #[Value.string (id ++ { data := #[digit m] }), Value.int IntKind.i64 d.kind, Value.int IntKind.i64 (x - d.less)] 76)).drew = V := ⟨_, rfl⟩
          have hbV : Below wr.heap.size wr V := by
            rw [← hV]; exact (((Below.refl _ wr).alloc (Nat.le_refl _) _).alloc (by simp) _).drew
          have bx : BoxAt V (wr.heap.size + 1) 76 #[Value.string (id ++ { data := #[digit m] }), Value.int IntKind.i64 d.kind, Value.int IntKind.i64 (x - d.less)] := by
            rw [← hV]; have := BoxAt.new (wr.alloc (Obj.cells #[Value.int IntKind.i64 d.kind, Value.int IntKind.i64 d.less] 108)) 76 #[Value.string (id ++ { data := #[digit m] }), Value.int IntKind.i64 d.kind, Value.int IntKind.i64 (x - d.less)]
            rw [World.size_alloc] at this; exact this
          have y0 := bx.cell (o := 0) rfl
          have y1 := bx.cell (o := 1) rfl
          have y2 := bx.cell (o := 2) rfl
          rw [hV]
          clear hV
          obtain ⟨q, hq⟩ : ∃ q : TaskS, q = ⟨kidId id m, d.kind, x - d.less⟩ := ⟨_, rfl⟩
          have hP2 : Hid (L = (pre ++ [q]) ++ childrenFrom id x (m + 1) (c.kids.drop (m + 1))) := by
            refine HP.out.trans ?_
            rw [HG.out, if_pos hless]; simp [hq]
          obtain ⟨fn, tmps, assign, body, hy, hR⟩ := hY pre q V (hJ _ _ _ hJs hbV) (Nat.le_trans hkw.size hbV.size) ⟨_, hP2.out.symm⟩
          rw [hq] at hy
          clear hq
          dsimp only [taskV, kidId] at hy
          gi_wp2
          refine ⟨fun h => (by cases h), ?_⟩
          refine hR.mono ?_
          rintro e W3 ⟨rfl, hJ3, hk3⟩
          · gi_wp2
            go_roundw
            case rel => exact ⟨m + 1, _, by omega, by go_num, hP2.out, hJ3, (hkw.trans (Kept.of_below hbV (fun k _ h => .inr (Nat.le_trans hkw.size h)))).trans (hk3.mono (fun k _ h => .inl h))⟩
            case measure => simp [intOf]; omega
      · have hP2 : Hid (L = pre ++ childrenFrom id x (m + 1) (c.kids.drop (m + 1))) := by
          refine HP.out.trans ?_
          rw [HG.out, if_neg hless]
        gi_wp2
        go_roundw
        case rel => exact ⟨m + 1, pre, by omega, by go_num, hP2.out, hJ _ _ _ hJs ((Below.refl _ wr).alloc (Nat.le_refl _) _), hkw.trans (Kept.alloc _ _ _)⟩
        case measure => simp [intOf]; omega
    · have hP2 : Hid (L = pre) := by
        refine HP.out.trans ?_
        rw [List.drop_eq_nil_of_le (by omega)]; simp [childrenFrom]
      gi_wp2
      go_end0
      exact ⟨⟨_, rfl⟩, by rw [hP2.out]; exact hJs⟩

set_option maxHeartbeats 1000000 in
set_option maxRecDepth 100000 in
/-- slices.Values of a list of tasks. -/
theorem values1_seqY (n : Nat) (Bs : Nat) (X : Nat → Prop) (v : Value) (l0 : List TaskS) (W : World) (hs : BoxAt W Bs 52 #[v]) (hv : ListAt 3 taskEnc W v l0) (hXv : ∀ g o m c, v = .slice (some ⟨g, o, none⟩) m c → 0 < m → ¬ X g) (hl : l0.length ≤ 1000000) :
    SeqY Fence.wide n Tryz.prog 149 #[.pointer (some ⟨Bs, 0, none⟩)] (fun c : TaskS => #[taskV c]) X l0 W := by
  intro l J hJ hY hJ0
  obtain ⟨a, cap, rfl, hc⟩ := hv
  have s0 := hs.cell (o := 0) rfl
  have HC := hid_of hc
  have HXV := hid_of hXv
  clear hc hXv
  refine callsIn_of_wp Tryz.func149 rfl trivial ?_ rfl
  simp only [Tryz.ntmps149, List.size_toArray, List.length_cons, List.length_nil, Nat.reduceAdd, Nat.reduceSub, Array.replicate_succ, Array.replicate_zero, List.push_toArray, List.append_toArray, List.nil_append, List.cons_append]
  gi_wp2
  gi_loopw [7] (fun i wr => ∃ m : Nat, m ≤ l0.length ∧ i = .int .i64 m ∧ J (l0.take m) wr ∧ Kept (fun k => X k ∨ W.heap.size ≤ k) W wr) (fun i _ => l0.length - (intOf i).toNat)
  case atStart => exact ⟨0, Nat.zero_le _, rfl, by simpa using hJ0, Kept.refl _ _⟩
  case round =>
    obtain ⟨m, hm, rfl, hJs, hkw⟩ := hrel
    rename World => wr
    have HJS := hid_of hJs
    have HKW := hid_of hkw
    have szr := hkw.size
    clear hJs hkw
    by_cases hlt : m < l0.length
    · obtain ⟨c, hcc⟩ : ∃ c, l0[m]? = some c := ⟨_, List.getElem?_eq_getElem hlt⟩
      obtain ⟨g, o, rfl, hgl, hce⟩ := HC.out m c hcc
      have nX : ¬ (X g ∨ W.heap.size ≤ g) := fun h => h.elim (HXV.out g o _ _ rfl (by omega)) (fun h => by omega)
      have e0 : wr.cell? ⟨g, o + m * 3, none⟩ = some (.string c.id) := (HKW.out.cell (p := ⟨g, o + m * 3, none⟩) hgl nX).trans (hce 0 _ rfl)
      have e1 : wr.cell? ⟨g, o + m * 3 + 1, none⟩ = some (.int .i64 c.kind) := (HKW.out.cell (p := ⟨g, o + m * 3 + 1, none⟩) hgl nX).trans (hce 1 _ rfl)
      have e2 : wr.cell? ⟨g, o + m * 3 + 2, none⟩ = some (.int .i64 c.arg) := (HKW.out.cell (p := ⟨g, o + m * 3 + 2, none⟩) hgl nX).trans (hce 2 _ rfl)
      have j1 : (0 : Int) ≤ (m : Int) := by omega
      have j2 : (m : Int) < (l0.length : Int) := by omega
      have HT : Hid (l0.take (m + 1) = l0.take m ++ [c]) := by show _ = _; rw [List.take_add_one, hcc]; rfl
      clear hce nX hcc
      obtain ⟨V, hV⟩ : ∃ V, wr.alloc (Obj.cells #[.string c.id, .int .i64 c.kind, .int .i64 c.arg] 76) = V := ⟨_, rfl⟩
      have hbV : Below wr.heap.size wr V := by rw [← hV]; exact (Below.refl _ _).alloc (Nat.le_refl _) _
      have bx : BoxAt V wr.heap.size 76 #[.string c.id, .int .i64 c.kind, .int .i64 c.arg] := by rw [← hV]; exact BoxAt.new wr _ _
      have y0 := bx.cell (o := 0) rfl
      have y1 := bx.cell (o := 1) rfl
      have y2 := bx.cell (o := 2) rfl
      obtain ⟨fn, tmps, assign, body, hy, hR⟩ := hY (l0.take m) c V (hJ _ _ _ HJS.out hbV) (Nat.le_trans szr hbV.size) (by rw [← HT.out]; exact List.take_prefix _ _)
      dsimp only [taskV] at hy
      gi_wp2
      refine ⟨fun h => (by cases h), ?_⟩
      refine hR.mono ?_
      rintro e W3 ⟨rfl, hJ3, hk3⟩
      gi_wp2
      go_roundw
      case rel => exact ⟨m + 1, by omega, by go_num, by rw [HT.out]; exact hJ3, (HKW.out.trans (Kept.of_below hbV (fun k _ h => .inr (Nat.le_trans szr h)))).trans (hk3.mono (fun k _ h => .inl h))⟩
      case measure => simp [intOf]; omega
    · obtain rfl : l0.length = m := by omega
      gi_wp2
      go_end0
      exact ⟨⟨_, rfl⟩, by have := HJS.out; rwa [List.take_length] at this⟩
end Go.Proofs.YtdbbejedipfckaaGreatDoor
