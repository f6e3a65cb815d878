/-
  tree.walk tells a task and all below it, each ahead of its children, and stops where a round says no more: for whatever body of whatever loop.
-/
import Derived.Test.YtfanaanofjhlkaaDoorKids
namespace Go.Proofs.YtfanaanofjhlkaaDoor
open Go Go.RowKit Go.Shelf

attribute [local go_sem] Oper.semAt_some

/-- The tasks that a program's tree may have. -/
def Good (ks : List KindS) (t : TaskS) : Prop := 0 ≤ t.kind ∧ t.kind < ks.length ∧ 0 ≤ t.arg ∧ (t.id.size : Int) + t.arg ≤ 12

theorem kidId_size (id : ByteArray) (i : Nat) : (kidId id i).size = id.size + 1 := by
  unfold kidId; rw [ByteArray.size_append]; rfl

theorem childrenFrom_mem {id : ByteArray} {x : Int} {c : TaskS} : ∀ {l : List KidS} {i : Nat}, c ∈ childrenFrom id x i l → ∃ d ∈ l, ∃ j, c = ⟨kidId id j, d.kind, x - d.less⟩ ∧ d.less ≤ x
  | [], _, h => by simp [childrenFrom] at h
  | d :: r, i, h => by
    unfold childrenFrom at h
    split at h
    · rename_i hd
      rcases List.mem_cons.1 h with rfl | h
      · exact ⟨d, by simp, i, rfl, hd⟩
      · obtain ⟨e, he, j, hc, hx⟩ := childrenFrom_mem h; exact ⟨e, List.mem_cons_of_mem _ he, j, hc, hx⟩
    · obtain ⟨e, he, j, hc, hx⟩ := childrenFrom_mem h; exact ⟨e, List.mem_cons_of_mem _ he, j, hc, hx⟩

theorem good_child {ks : List KindS} {kind arg : Int} {t c : TaskS} (hp : progB ks kind arg = true) (hG : Good ks t) (hc : c ∈ children ks t) : Good ks c ∧ c.arg + 1 ≤ t.arg := by
  obtain ⟨h0, h1, h2, h3⟩ := hG
  obtain ⟨j, hj⟩ := Int.eq_ofNat_of_zero_le h0
  have hjl : j < ks.length := by omega
  have hk : kindAt ks t.kind = ks[j] := by simp [kindAt, hj, hjl]
  obtain ⟨d, hd, i, rfl, hx⟩ := childrenFrom_mem hc
  rw [hk] at hd
  have hkb : kindB ks.length ks[j] = true := by
    simp [progB] at hp
    exact hp.1.1.2 _ (List.getElem_mem hjl)
  simp [kindB, kidB, numB, rangeB] at hkb
  have := hkb.2 d hd
  refine ⟨⟨by dsimp only; omega, by dsimp only; omega, by dsimp only; omega, ?_⟩, by dsimp only; omega⟩
  dsimp only
  rw [kidId_size]; omega

theorem flatMap_prefix {l L : List TaskS} (D : TaskS → List TaskS) (t : TaskS) (h : l <+: L) : (t :: l.flatMap D) <+: (t :: L.flatMap D) := by
  obtain ⟨r, rfl⟩ := h
  exact ⟨r.flatMap D, by simp⟩

section
variable (ks : List KindS) (kind arg : Int) (a : Option Addr) (cap l B : Nat) (X ok : Nat → Prop) (J Jx : List TaskS → World → Prop)

/-- What a round owes. -/
def Rounds : Prop := ∀ m pre t W1, Good ks t → J pre W1 → B ≤ W1.heap.size → YieldAt Fence.wide m Tryd.prog l #[taskV t] W1 fun e W' =>
  (e = .returned (.bool true) ∧ J (pre ++ [t]) W' ∧ Kept X W1 W') ∨ (e = .returned (.bool false) ∧ Jx (pre ++ [t]) W' ∧ Kept (· < B) W1 W')

/-- What a call of walk at t does, T being what it tells. -/
def WalkSays (t : TaskS) (T : List TaskS) : Prop := ∀ n pre W, KindsAt ok W (.slice a ks.length cap) ks → J pre W → B ≤ W.heap.size →
  CallsIn Fence.wide n Tryd.prog 35 #[.agg #[.slice a ks.length cap, .int .i64 kind, .int .i64 arg], taskV t, .func (.yield l) #[] #[]] W fun e W' =>
    (e = .returned (.bool true) ∧ J (pre ++ T) W' ∧ Kept X W W') ∨ (e = .returned (.bool false) ∧ ∃ q, q <+: T ∧ Jx (pre ++ q) W' ∧ Kept (· < B) W W')

variable {ks kind arg a cap l B X ok J Jx}
set_option maxHeartbeats 1000000 in
set_option maxRecDepth 100000 in
theorem walk_step (hp : progB ks kind arg = true) (hX : ∀ k, X k → k < B) (hok : ∀ b, ok b → ¬ X b)
    (hJ : ∀ s A A', J s A → Below B A A' → J s A') (hJx : ∀ s A A', Jx s A → Below B A A' → Jx s A') (hY : Rounds ks l B X J Jx) (t : TaskS) (hG : Good ks t) (D : TaskS → List TaskS)
    (ih : ∀ c, c ∈ children ks t → WalkSays ks kind arg a cap l B X ok J Jx c (D c)) : WalkSays ks kind arg a cap l B X ok J Jx t (t :: (children ks t).flatMap D) := by
  intro n pre W hk h0 hB
  obtain ⟨L, hL⟩ : ∃ L, children ks t = L := ⟨_, rfl⟩
  rw [hL] at ih ⊢
  obtain ⟨id, k, x⟩ := t
  have nX : ∀ k, B ≤ k → ¬ X k := fun k h hx => Nat.not_lt_of_le h (hX k hx)
  refine callsIn_of_wp_marks Tryd.func35 rfl trivial ?_ rfl
  simp only [Tryd.ntmps35, taskV, List.size_toArray, List.length_cons, List.length_nil, Nat.reduceAdd, Nat.reduceSub, Array.replicate_succ, Array.replicate_zero, List.push_toArray, List.append_toArray, List.nil_append, List.cons_append]
  gi_wp2
  obtain ⟨V, hV⟩ : ∃ V, ((((W.alloc (Obj.cells #[Value.slice a ks.length cap, Value.int IntKind.i64 kind, Value.int IntKind.i64 arg] 24)).alloc (Obj.cells #[Value.string id, Value.int IntKind.i64 k, Value.int IntKind.i64 x] 53)).alloc (Obj.cells #[Value.func (Fn.yield l) #[] #[]] 76)).alloc (Obj.cells #[Value.bool false] 4)) = V := ⟨_, rfl⟩
  have hbV : Below W.heap.size W V := by
    rw [← hV]; exact ((((Below.refl _ _).alloc (Nat.le_refl _) _).alloc (by simp) _).alloc (by simp; omega) _).alloc (by simp; omega) _
  have b3 : BoxAt V W.heap.size 24 #[Value.slice a ks.length cap, Value.int IntKind.i64 kind, Value.int IntKind.i64 arg] := by
    rw [← hV]; exact (((BoxAt.new W _ _).alloc _).alloc _).alloc _
  have b4 : BoxAt V (W.heap.size + 1) 53 #[Value.string id, Value.int IntKind.i64 k, Value.int IntKind.i64 x] := by
    rw [← hV]; have := ((BoxAt.new (W.alloc (Obj.cells #[Value.slice a ks.length cap, Value.int IntKind.i64 kind, Value.int IntKind.i64 arg] 24)) 53 #[Value.string id, Value.int IntKind.i64 k, Value.int IntKind.i64 x]).alloc (Obj.cells #[Value.func (Fn.yield l) #[] #[]] 76)).alloc (Obj.cells #[Value.bool false] 4)
    simpa only [World.size_alloc] using this
  have b5 : BoxAt V (W.heap.size + 1 + 1) 76 #[Value.func (Fn.yield l) #[] #[]] := by
    rw [← hV]; have := (BoxAt.new ((W.alloc (Obj.cells #[Value.slice a ks.length cap, Value.int IntKind.i64 kind, Value.int IntKind.i64 arg] 24)).alloc (Obj.cells #[Value.string id, Value.int IntKind.i64 k, Value.int IntKind.i64 x] 53)) 76 #[Value.func (Fn.yield l) #[] #[]]).alloc (Obj.cells #[Value.bool false] 4)
    simpa only [World.size_alloc] using this
  have b6 : BoxAt V (W.heap.size + 1 + 1 + 1) 4 #[Value.bool false] := by
    rw [← hV]; have := BoxAt.new (((W.alloc (Obj.cells #[Value.slice a ks.length cap, Value.int IntKind.i64 kind, Value.int IntKind.i64 arg] 24)).alloc (Obj.cells #[Value.string id, Value.int IntKind.i64 k, Value.int IntKind.i64 x] 53)).alloc (Obj.cells #[Value.func (Fn.yield l) #[] #[]] 76)) 4 #[Value.bool false]
    simpa only [World.size_alloc] using this
  rw [hV]
  clear hV
  have hsV := hbV.size
  obtain ⟨fn, tmps, assign, body, hy, hR⟩ := hY (n - 1) pre ⟨id, k, x⟩ V hG (hJ _ _ _ h0 (hbV.mono hB)) (Nat.le_trans hB hsV)
  dsimp only [taskV] at hy
  rw [hy]
  gi_wp2
  refine ⟨fun h => (by cases h), ?_⟩
  refine hR.mono ?_
  rintro e W1 (⟨rfl, hJ1, hk1⟩ | ⟨rfl, hJx1, hk1⟩)
  case inr =>
    have d6 := b6.kept hk1 (by omega)
    have c6 := d6.cell (o := 0) rfl
    have g6 := d6.frozen 0
    gi_wp2
    refine ⟨.bool false, ?_, .inr ⟨rfl, [⟨id, k, x⟩], ⟨L.flatMap D, by simp⟩, hJx _ _ _ hJx1 (((Below.refl _ W1)).setCell (p := ⟨W.heap.size + 1 + 1 + 1, 0, none⟩) (by simp; omega) _), ?_⟩⟩
    · have c7 := (BoxAt.cell (o := 0) (show BoxAt (W1.setCell ⟨W.heap.size + 1 + 1 + 1, 0, none⟩ (.bool false)) _ _ #[.bool false] from Boxed.set (.bool false) d6) rfl)
      simp [results, Tryd.f35, go_sem, c7]
    · exact ((Kept.of_below hbV (fun k h h' => absurd h (by omega))).trans hk1).setCell (.inr (by simp; omega)) _
  case inl =>
    clear hy hR
    have e3 := b3.kept hk1 (nX _ (by omega))
    have e4 := b4.kept hk1 (nX _ (by omega))
    have e5 := b5.kept hk1 (nX _ (by omega))
    have e6 := b6.kept hk1 (nX _ (by omega))
    have q0 := e3.cell (o := 0) rfl
    have q1 := e3.cell (o := 1) rfl
    have q2 := e3.cell (o := 2) rfl
    have r0 := e4.cell (o := 0) rfl
    have r1 := e4.cell (o := 1) rfl
    have r2 := e4.cell (o := 2) rfl
    have hfC : Fence.wide.fn 39 := trivial
    gi_wp2_with ((try refine ⟨fun h => (by cases h), ?_⟩); gi_at_call 39; refine (children_in Fence.wide (n - 1) trivial rfl _ _ _ _ _ _ _ _ _).mono ?_; rintro e w' ⟨rfl, rfl⟩)
    obtain ⟨Z, hZ⟩ : ∃ Z, ((W1.alloc (Obj.cells #[Value.slice a ks.length cap, Value.int IntKind.i64 kind, Value.int IntKind.i64 arg] 24)).alloc (Obj.cells #[Value.string id, Value.int IntKind.i64 k, Value.int IntKind.i64 x] 53)) = Z := ⟨_, rfl⟩
    have sZ : Z.heap.size = W1.heap.size + 2 := by rw [← hZ]; simp
    have hbZ : Below W1.heap.size W1 Z := by
      rw [← hZ]; exact ((Below.refl _ _).alloc (Nat.le_refl _) _).alloc (by simp) _
    have zp : BoxAt Z W1.heap.size 24 #[Value.slice a ks.length cap, Value.int IntKind.i64 kind, Value.int IntKind.i64 arg] := by
      rw [← hZ]; exact (BoxAt.new W1 _ _).alloc _
    have zt : BoxAt Z (W1.heap.size + 1) 53 #[Value.string id, Value.int IntKind.i64 k, Value.int IntKind.i64 x] := by
      rw [← hZ]; have := BoxAt.new (W1.alloc (Obj.cells #[Value.slice a ks.length cap, Value.int IntKind.i64 kind, Value.int IntKind.i64 arg] 24)) 53 #[Value.string id, Value.int IntKind.i64 k, Value.int IntKind.i64 x]
      simpa only [World.size_alloc] using this
    rw [hZ]
    clear hZ q0 q1 q2 r0 r1 r2
    have hs1 := hk1.size
    have z3 := e3.below hbZ (by have := e3.lt; omega)
    have z4 := e4.below hbZ (by have := e4.lt; omega)
    have z5 := e5.below hbZ (by have := e5.lt; omega)
    have z6 := e6.below hbZ (by have := e6.lt; omega)
    have l6 := e6.lt
    have hkZ : Kept X W Z := ((Kept.of_below hbV (fun k h h' => absurd h (by omega))).trans hk1).trans (Kept.of_below hbZ (fun k h h' => absurd h (by omega)))
    have kindsZ : KindsAt ok Z (.slice a ks.length cap) ks := hk.kept hkZ hok
    obtain ⟨g0, g1, g2, g3⟩ := hG
    simp only at g0 g1 g2 g3
    have HB : Hid (∀ {A A' : World}, Below Z.heap.size A A' → Below B A A') := fun h => h.mono (by omega)
    have hseq : ∀ Y, Below Z.heap.size Z Y → Y.heap.size = Z.heap.size + 2 → SeqX Fence.wide (n - 1) Tryd.prog 43 #[.pointer (some ⟨W1.heap.size, 0, none⟩), .pointer (some ⟨W1.heap.size + 1, 0, none⟩)] (fun c : Of L => #[taskV c.1]) (fun k => X k ∨ k = Z.heap.size + 1)
        (fun xs => xs.map Subtype.val = L) (fun pre => pre.map Subtype.val <+: L) Y := fun Y hbY sY => by
      refine children1_seq (n - 1) W1.heap.size (W1.heap.size + 1) (fun k => X k ∨ k = Z.heap.size + 1) (fun b => ok b ∧ b < Z.heap.size) a cap kind arg ks ⟨id, k, x⟩ L hL Y (zp.below hbY (by omega)) (zt.below hbY (by omega))
        (kindsZ.below.kept (Kept.of_below (X := fun k => Z.heap.size ≤ k) hbY (fun _ _ h => h)) (fun b h => by omega)) ?_ ?_ hp g0 g1 g2 (by dsimp only; omega) (by dsimp only; omega)
      · rintro b h (h' | h')
        · exact hok b h.1 h'
        · omega
      · rintro (h' | h')
        · exact nX _ (by omega) h'
        · omega
    refine range_law (F := Fence.wide) (n := n) (w := Z) rfl (fun h => (by cases h)) (gf := 43) (lb := #[.pointer (some ⟨W1.heap.size, 0, none⟩), .pointer (some ⟨W1.heap.size + 1, 0, none⟩)]) (by rfl) trivial (enters_of Tryd.func43 (by kernel_rfl) rfl)
      X (fun k h => by have := hX k h; omega) hseq
      (fun _ => by rfl)
      (fun pre' U => J (pre ++ ⟨id, k, x⟩ :: (pre'.map Subtype.val).flatMap D) U ∧ Kept X Z U)
      (fun c pre' U => c = .ret ∧ (∃ q, q <+: (⟨id, k, x⟩ :: (pre'.map Subtype.val).flatMap D) ∧ Jx (pre ++ q) U) ∧ Kept (· < B) W U ∧ BoxAt U (W.heap.size + 1 + 1 + 1) 4 #[.bool false])
      (fun s A A' h hb => ⟨hJ _ _ _ h.1 (HB.out hb), h.2.later hb (Nat.le_refl _)⟩)
      (fun c s A A' h hb => ⟨h.1, h.2.1.imp fun q h => ⟨h.1, hJx _ _ _ h.2 (HB.out hb)⟩, h.2.2.1.later hb (by omega), h.2.2.2.below hb (by omega)⟩)
      ⟨by simpa using hJ _ _ _ hJ1 (hbZ.mono (by omega)), Kept.refl _ _⟩
      (fun pre' c a' U => ∃ Bx, Z.heap.size + 2 ≤ Bx ∧ BoxAt U Bx 53 #[.string c.1.id, .int .i64 c.1.kind, .int .i64 c.1.arg] ∧ a' = Act.mk #[Value.agg #[Value.slice a ks.length cap, Value.int IntKind.i64 kind, Value.int IntKind.i64 arg],
          Value.agg #[Value.string id, Value.int IntKind.i64 k, Value.int IntKind.i64 x],
          Value.func (Fn.yield l) #[] #[], Value.pointer (some { block := W.heap.size, off := 0 }),
          Value.pointer (some { block := W.heap.size + 1, off := 0 }),
          Value.pointer (some { block := W.heap.size + 1 + 1, off := 0 }),
          Value.pointer (some { block := W.heap.size + 1 + 1 + 1, off := 0 }), Value.pointer (some { block := Bx, off := 0 }), Value.func (Fn.yield l) #[] #[],
          Value.agg #[Value.string id, Value.int IntKind.i64 k, Value.int IntKind.i64 x], Value.bool true,
          Value.bool false,
          Value.agg #[Value.slice a ks.length cap, Value.int IntKind.i64 kind, Value.int IntKind.i64 arg],
          Value.agg #[Value.string id, Value.int IntKind.i64 k, Value.int IntKind.i64 x],
          Value.func (Fn.func 43) #[]
            #[Value.pointer (some { block := W1.heap.size, off := 0 }),
              Value.pointer (some { block := W1.heap.size + 1, off := 0 })],
          Value.agg #[.string c.1.id, .int .i64 c.1.kind, .int .i64 c.1.arg], undef, undef, undef, undef, undef] [])
      (fun pre' c a' A A' h hk => by
        obtain ⟨Bx, e1, e2, e3⟩ := h
        exact ⟨Bx, e1, e2.kept hk (by omega), e3⟩) ?assign ?body ?done ?stop
    case assign =>
      rintro l' pre' ⟨⟨id', k', x'⟩, hmem⟩ U K ⟨hJU, hkU⟩ hsU hK
      simp only [taskV]
      gi_wp2
      exact hK _ _ (Kept.alloc _ _ _) ⟨hJ _ _ _ hJU (((Below.refl _ U).alloc (Nat.le_refl _) _).mono (by omega)), hkU.trans (Kept.alloc _ _ _)⟩ ⟨U.heap.size, hsU, BoxAt.new U _ _, rfl⟩
    case body =>
      rintro l' pre' ⟨⟨id', k', x'⟩, hmem⟩ a' U ⟨hJU, hkU⟩ ⟨Bx, hBx, bX, rfl⟩ hsU
      simp only at bX
      have u3 := z3.kept hkU (nX _ (by omega))
      have u5 := z5.kept hkU (nX _ (by omega))
      have u6 := z6.kept hkU (nX _ (by omega))
      have q0 := u3.cell (o := 0) rfl
      have q1 := u3.cell (o := 1) rfl
      have q2 := u3.cell (o := 2) rfl
      have q5 := u5.cell (o := 0) rfl
      have r0 := bX.cell (o := 0) rfl
      have r1 := bX.cell (o := 1) rfl
      have r2 := bX.cell (o := 2) rfl
      have hfW : Fence.wide.fn 35 := trivial
      have HI : Hid (∀ m, CallsIn Fence.wide m Tryd.prog 35 #[.agg #[.slice a ks.length cap, .int .i64 kind, .int .i64 arg], .agg #[.string id', .int .i64 k', .int .i64 x'], .func (.yield l) #[] #[]] U fun e W' =>
          (e = .returned (.bool true) ∧ J ((pre ++ ⟨id, k, x⟩ :: (pre'.map Subtype.val).flatMap D) ++ D ⟨id', k', x'⟩) W' ∧ Kept X U W') ∨ (e = .returned (.bool false) ∧ ∃ q, q <+: D ⟨id', k', x'⟩ ∧ Jx ((pre ++ ⟨id, k, x⟩ :: (pre'.map Subtype.val).flatMap D) ++ q) W' ∧ Kept (· < B) U W' ∧ W'.cell? ⟨W.heap.size + 1 + 1 + 1, 0, none⟩ = some (.bool false) ∧ W'.frozen? ⟨W.heap.size + 1 + 1 + 1, 0, none⟩ = false)) :=
        fun m => (ih ⟨id', k', x'⟩ hmem m _ U (kindsZ.kept hkU hok) hJU (by omega)).mono fun e W' h => h.elim .inl fun ⟨he, q, hq, hj, hk⟩ =>
          .inr ⟨he, q, hq, hj, hk, (u6.kept hk (by omega)).cell (o := 0) rfl, (u6.kept hk (by omega)).frozen 0⟩
      gi_wp2_with ((try refine ⟨fun h => (by cases h), ?_⟩); gi_at_call 35; refine (CallsIn.inRound l' (HI.out _)).mono ?_; rintro e U1 (⟨rfl, hJ2, hk2⟩ | ⟨rfl, q, hq, hJx2, hk2, c6, f6⟩))
      · exact ⟨hk2, by simpa [List.append_assoc] using hJ2, hkU.trans hk2⟩
      · have v6 := u6.kept hk2 (by omega)
        have hsU1 := hk2.size
        have n6 : W.heap.size + 1 + 1 + 1 < Z.heap.size := z6.lt
        have kU1 : Kept (· < B) W U1 := ((hkZ.trans hkU).mono (fun k _ h => hX k h)).trans hk2
        refine ⟨(hk2.mono (fun k _ h => by omega)).setCell (.inl n6) _, rfl, ⟨⟨id, k, x⟩ :: ((pre'.map Subtype.val).flatMap D ++ q), ?_, ?_⟩, kU1.setCell (.inr (by simp; omega)) _, Boxed.set (.bool false) v6⟩
        · obtain ⟨r, hr⟩ := hq
          exact ⟨r, by simp [← hr]⟩
        · refine hJx _ _ _ ?_ ((Below.refl _ U1).setCell (p := ⟨W.heap.size + 1 + 1 + 1, 0, none⟩) (by simp; omega) _)
          simpa [List.append_assoc] using hJx2
    case done =>
      rintro Dd xs U hD hS ⟨hJU, hkU⟩ hK
      have u6 := z6.kept hkU (nX _ (by omega))
      have c6 := u6.cell (o := 0) rfl
      have f6 := u6.frozen 0
      have n6 : W.heap.size + 1 + 1 + 1 < Z.heap.size := z6.lt
      gi_wp2
      have hK' : (U.setCell ⟨W.heap.size + 1 + 1 + 1, 0, none⟩ (.bool true)).heap[Dd]? = some (.deferred (some [])) := (Below.heap_setCell U ⟨W.heap.size + 1 + 1 + 1, 0, none⟩ (.bool true) Dd (by simp; omega)).trans hK
      refine ⟨by simp, .inl ⟨_, _, rfl, run_takeDeferred hK', ?_⟩⟩
      have hkF : Kept (· = Dd) (U.setCell ⟨W.heap.size + 1 + 1 + 1, 0, none⟩ (.bool true)) ((U.setCell ⟨W.heap.size + 1 + 1 + 1, 0, none⟩ (.bool true)).putObj Dd (.deferred none)) := Kept.putObj _ _ _ rfl
      have hc6 := ((show BoxAt (U.setCell ⟨W.heap.size + 1 + 1 + 1, 0, none⟩ (.bool true)) _ _ #[.bool true] from Boxed.set (.bool true) u6).kept hkF (by omega)).cell (o := 0) rfl
      have hDs := (Array.getElem?_eq_some_iff.1 hK).1
      have hbF : Below (W.heap.size + 1 + 1 + 1) U ((U.setCell ⟨W.heap.size + 1 + 1 + 1, 0, none⟩ (.bool true)).putObj Dd (.deferred none)) :=
        ((Below.refl _ U).setCell (p := ⟨W.heap.size + 1 + 1 + 1, 0, none⟩) (by simp) _).trans (hkF.below (by have := (Array.getElem?_eq_some_iff.1 hK').1; omega) (fun k e => by omega))
      refine ⟨.bool true, ?_, .inl ⟨rfl, ?_, (hkZ.trans hkU).later hbF (by omega)⟩⟩
      · simp [results, Tryd.f35, go_sem, hc6]
      · rw [← hS]; exact hJ _ _ _ hJU (hbF.mono (by omega))
    case stop =>
      rintro Dd c pre' U hD hpre ⟨rfl, ⟨q, hq, hJU⟩, hkU, u6⟩ hK
      gi_wp2
      refine ⟨by simp, .inl ⟨_, _, rfl, run_takeDeferred hK, ?_⟩⟩
      have n6 : W.heap.size + 1 + 1 + 1 < Z.heap.size := z6.lt
      have hkF : Kept (· = Dd) U (U.putObj Dd (.deferred none)) := Kept.putObj _ _ _ rfl
      have hc6 := (u6.kept hkF (by omega)).cell (o := 0) rfl
      have hbF : Below W.heap.size U (U.putObj Dd (.deferred none)) := hkF.below (by have := (Array.getElem?_eq_some_iff.1 hK).1; omega) (fun k e => by omega)
      refine ⟨.bool false, ?_, .inr ⟨rfl, q, ?_, hJx _ _ _ hJU (hbF.mono hB), hkU.later hbF (Nat.le_refl _)⟩⟩
      · simp [results, Tryd.f35, go_sem, hc6]
      · refine hq.trans ?_
        exact flatMap_prefix D _ hpre

theorem walk_says (hp : progB ks kind arg = true) (hX : ∀ k, X k → k < B) (hok : ∀ b, ok b → ¬ X b)
    (hJ : ∀ s A A', J s A → Below B A A' → J s A') (hJx : ∀ s A A', Jx s A → Below B A A' → Jx s A') (hY : Rounds ks l B X J Jx) :
    ∀ (f : Nat) (t : TaskS), Good ks t → t.arg ≤ f → WalkSays ks kind arg a cap l B X ok J Jx t (tree ks f t)
  | 0, t, hG, hf => by
    have he : children ks t = [] := by
      refine List.eq_nil_iff_forall_not_mem.2 fun c hc => ?_
      have h := good_child hp hG hc
      have h2 := h.1.2.2.1
      omega
    have := walk_step (a := a) (cap := cap) hp hX hok hJ hJx hY t hG (fun _ => []) (fun c hc => by rw [he] at hc; cases hc)
    rw [he] at this
    exact this
  | f + 1, t, hG, hf => walk_step hp hX hok hJ hJx hY t hG (tree ks f) fun c hc => walk_says hp hX hok hJ hJx hY f c (good_child hp hG hc).1 (by have := (good_child hp hG hc).2; omega)
end
end Go.Proofs.YtfanaanofjhlkaaDoor
