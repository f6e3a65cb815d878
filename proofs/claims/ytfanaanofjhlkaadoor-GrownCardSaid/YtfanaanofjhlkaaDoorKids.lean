/-
  The iterator that tree.Children hands back tells a task's children, in their order, for whatever task of whatever program lies in memory.
-/
import Derived.Test.YtfanaanofjhlkaaDoorLeaves
import Derived.Deep.RegionHeld3
namespace Go.Proofs.YtfanaanofjhlkaaDoor
open Go Go.RowKit Go.Shelf

attribute [local go_sem] Oper.semAt_some

theorem childrenFrom_get (id : ByteArray) (x : Int) (kids : List KidS) (i : Nat) (c : KidS) (h : kids[i]? = some c) :
    childrenFrom id x i (kids.drop i) = if c.less ≤ x then ⟨kidId id i, c.kind, x - c.less⟩ :: childrenFrom id x (i + 1) (kids.drop (i + 1)) else childrenFrom id x (i + 1) (kids.drop (i + 1)) := by
  have hk := (List.getElem?_eq_some_iff.1 h).1
  have he := (List.getElem?_eq_some_iff.1 h).2
  rw [List.drop_eq_getElem_cons hk, he]
  rfl

/-- One of a list's tasks. -/
abbrev Of (L : List TaskS) := { c : TaskS // c ∈ L }

set_option maxHeartbeats 1000000 in
set_option maxRecDepth 100000 in
theorem children1_seq (n : Nat) (Bp Bt : Nat) (X ok : Nat → Prop) (a : Option Addr) (cap : Nat) (kind arg : Int) (ks : List KindS) (t : TaskS) (L : List TaskS) (hL : children ks t = L) (W : World)
    (hp : BoxAt W Bp 24 #[.slice a ks.length cap, .int .i64 kind, .int .i64 arg]) (ht : BoxAt W Bt 53 #[.string t.id, .int .i64 t.kind, .int .i64 t.arg])
    (hk : KindsAt ok W (.slice a ks.length cap) ks) (hX : ∀ b, ok b → ¬ X b) (hXt : ¬ X Bt)
    (hprog : progB ks kind arg = true) (h0 : 0 ≤ t.kind) (h1 : t.kind < ks.length) (h2 : 0 ≤ t.arg) (h3 : t.arg ≤ 12) (h4 : t.id.size ≤ 12) :
    SeqX Fence.wide n Tryd.prog 43 #[.pointer (some ⟨Bp, 0, none⟩), .pointer (some ⟨Bt, 0, none⟩)] (fun c : Of L => #[taskV c.1]) X
      (fun xs => xs.map Subtype.val = L) (fun pre => pre.map Subtype.val <+: L) W := by
  intro l J Jx hJ hJx hY hJ0
  obtain ⟨id, k, x⟩ := t
  obtain ⟨a', cap', hs, hc⟩ := hk
  simp only [Value.slice.injEq] at hs
  obtain ⟨rfl, -, rfl⟩ := hs
  simp only at h0 h1 h2 h3 h4 ht
  obtain ⟨j, rfl⟩ := Int.eq_ofNat_of_zero_le h0
  have hj : j < ks.length := by omega
  obtain ⟨c, hcc⟩ : ∃ c, ks[j]? = some c := ⟨_, List.getElem?_eq_getElem hj⟩
  obtain ⟨b, o, v, rfl, hok, hbw, c0, c1, c2, hkk⟩ := hc j c hcc
  obtain ⟨a', cap', rfl, h'⟩ := hkk
  have hkb : kindB ks.length c = true := by
    simp [progB] at hprog
    exact hprog.1.1.2 c (List.mem_of_getElem? hcc)
  have hlen : ks.length ≤ 5 := by simp [progB, rangeB] at hprog; omega
  have hkl : c.kids.length ≤ 3 := by simp [kindB] at hkb; exact hkb.1.2
  have hkids : ∀ d ∈ c.kids, 1 ≤ d.less ∧ d.less ≤ 9 ∧ 0 ≤ d.kind ∧ d.kind < ks.length := by
    intro d hd; simp [kindB, kidB, numB, rangeB] at hkb; have := hkb.2 d hd; omega
  have HC : Hid (L = childrenFrom id x 0 c.kids) := by rw [← hL]; simp [Hid, children, kindAt, hcc]
  have p0 := hp.cell (o := 0) rfl
  have t0 := ht.cell (o := 0) rfl
  have t1 := ht.cell (o := 1) rfl
  have t2 := ht.cell (o := 2) rfl
  clear hprog hkb hc hL
  refine callsIn_of_wp Tryd.func43 rfl trivial ?_ rfl
  simp only [Tryd.ntmps43, List.size_toArray, List.length_cons, List.length_nil, Nat.reduceAdd, Nat.reduceSub, Array.replicate_succ, Array.replicate_zero, List.push_toArray, List.append_toArray, List.nil_append, List.cons_append]
  gi_wp2
  gi_loopw [15] (fun i wr => ∃ (m : Nat) (pre : List (Of L)), m ≤ c.kids.length ∧ i = .int .i64 m ∧ L = pre.map Subtype.val ++ childrenFrom id x m (c.kids.drop m) ∧ J pre wr ∧ Kept (fun k => X k ∨ W.heap.size ≤ k) W wr)
    (fun i _ => c.kids.length - (intOf i).toNat)
  case atStart => exact ⟨0, [], Nat.zero_le _, rfl, HC.out, hJ0, Kept.refl _ _⟩
  case round =>
    obtain ⟨m, pre, hm, rfl, hpre, hJs, hkw⟩ := hrel
    have HP : Hid (L = pre.map Subtype.val ++ childrenFrom id x m (c.kids.drop m)) := hpre
    clear hpre
    have nt : ¬ (X Bt ∨ W.heap.size ≤ Bt) := fun h => h.elim hXt (fun h => Nat.not_lt_of_le h ht.lt)
    have u0 := (ht.kept hkw nt).cell (o := 0) rfl
    have u1 := (ht.kept hkw nt).cell (o := 1) rfl
    have u2 := (ht.kept hkw nt).cell (o := 2) rfl
    have hbt := (ht.kept hkw nt).lt
    by_cases hlt : m < c.kids.length
    · obtain ⟨d, hd⟩ : ∃ d, c.kids[m]? = some d := ⟨_, List.getElem?_eq_getElem hlt⟩
      obtain ⟨b', o', rfl, hok', hbw', d0, d1⟩ := h' m d hd
      have nb : ¬ (X b' ∨ W.heap.size ≤ b') := fun h => h.elim (hX b' hok') (fun h => Nat.not_lt_of_le h hbw')
      have f0 := (hkw.cell (p := ⟨b', o' + m * 2, none⟩) hbw' nb).trans d0
      have f1 := (hkw.cell (p := ⟨b', o' + m * 2 + 1, none⟩) hbw' nb).trans d1
      obtain ⟨hl1, hl9, hk0, hk1⟩ := hkids d (List.mem_of_getElem? hd)
      have v0 := fun o => cell_alloc o u0
      have v2 := fun o => cell_alloc o u2
      have HG : Hid (childrenFrom id x m (c.kids.drop m) = if d.less ≤ x then ⟨kidId id m, d.kind, x - d.less⟩ :: childrenFrom id x (m + 1) (c.kids.drop (m + 1)) else childrenFrom id x (m + 1) (c.kids.drop (m + 1))) := childrenFrom_get id x c.kids m d hd
      by_cases hless : d.less ≤ x
      · gi_wp2
        refine wpIn_wide.2 ?_
        have g0 := (BoxAt.new wr 46 #[Value.int IntKind.i64 d.kind, Value.int IntKind.i64 d.less]).cell (o := 0) rfl
        have g1 := (BoxAt.new wr 46 #[Value.int IntKind.i64 d.kind, Value.int IntKind.i64 d.less]).cell (o := 1) rfl
        have z1 : ¬ 9223372036854775807 < id.size + 1 := by omega
        have z2 : id.size < 9223372036854775807 := by omega
        have z3 : IntKind.i64.wrap (x - d.less) = x - d.less := IntWalk.i64_in _ (by omega)
        go_region_held3 (fun w' => w'.cell? ⟨Bt, 0, none⟩ = some (.string id) ∧ w'.cell? ⟨Bt, 2, none⟩ = some (.int .i64 x) ∧ w'.cell? ⟨wr.heap.size, 0, none⟩ = some (.int .i64 d.kind) ∧ w'.cell? ⟨wr.heap.size, 1, none⟩ = some (.int .i64 d.less)) (go_keep)
          (first | (go_at_call 44; refine (itoa_calls m (by omega) _).mono ?_; rintro e w' ⟨rfl, rfl⟩))
        all_goals
          obtain ⟨V, hV⟩ : ∃ V, ((wr.alloc (Obj.cells #[Value.int IntKind.i64 d.kind, Value.int IntKind.i64 d.less] 46)).alloc (Obj.cells #[Value.string (id ++ { data := #[digit m] }), Value.int IntKind.i64 d.kind, Value.int IntKind.i64 (x - d.less)] 53)).drew = V := ⟨_, rfl⟩
          have hbV : Below wr.heap.size wr V := by
            rw [← hV]; exact (((Below.refl _ wr).alloc (Nat.le_refl _) _).alloc (by simp) _).drew
          have bx : BoxAt V (wr.heap.size + 1) 53 #[Value.string (id ++ { data := #[digit m] }), Value.int IntKind.i64 d.kind, Value.int IntKind.i64 (x - d.less)] := by
            rw [← hV]; have := BoxAt.new (wr.alloc (Obj.cells #[Value.int IntKind.i64 d.kind, Value.int IntKind.i64 d.less] 46)) 53 #[Value.string (id ++ { data := #[digit m] }), Value.int IntKind.i64 d.kind, Value.int IntKind.i64 (x - d.less)]
            rw [World.size_alloc] at this; exact this
          have y0 := bx.cell (o := 0) rfl
          have y1 := bx.cell (o := 1) rfl
          have y2 := bx.cell (o := 2) rfl
          rw [hV]
          clear hV
          have hmem : (⟨kidId id m, d.kind, x - d.less⟩ : TaskS) ∈ L := by rw [HP.out, HG.out, if_pos hless]; simp
          obtain ⟨q, hq⟩ : ∃ q : Of L, q.1 = ⟨kidId id m, d.kind, x - d.less⟩ := ⟨⟨_, hmem⟩, rfl⟩
          clear hmem
          have hP2 : Hid (L = (pre ++ [q]).map Subtype.val ++ childrenFrom id x (m + 1) (c.kids.drop (m + 1))) := by
            refine HP.out.trans ?_
            rw [HG.out, if_pos hless]; simp [hq]
          obtain ⟨fn, tmps, assign, body, hy, hR⟩ := hY pre q V (hJ _ _ _ hJs (hbV.mono hkw.size)) (Nat.le_trans hkw.size hbV.size)
          rw [hq] at hy
          clear hq
          dsimp only [taskV, kidId] at hy
          gi_wp2
          refine ⟨fun h => (by cases h), ?_⟩
          refine hR.mono ?_
          rintro e W3 (⟨rfl, hJ3, hk3⟩ | ⟨rfl, hJx3, -⟩)
          · gi_wp2
            go_roundw
            case rel => exact ⟨m + 1, _, by omega, by go_num, hP2.out, hJ3, (hkw.trans (Kept.of_below hbV (fun k _ h => .inr (Nat.le_trans hkw.size h)))).trans (hk3.mono (fun k _ h => .inl h))⟩
            case measure => simp [intOf]; omega
          · gi_wp2
            refine bodyPost_ret (results_none rfl _ _ _) rfl ?_
            exact ⟨⟨_, rfl⟩, .inr ⟨_, ⟨_, hP2.out.symm⟩, hJx3⟩⟩
      · have hP2 : Hid (L = pre.map Subtype.val ++ childrenFrom id x (m + 1) (c.kids.drop (m + 1))) := by
          refine HP.out.trans ?_
          rw [HG.out, if_neg hless]
        gi_wp2
        go_roundw
        case rel => exact ⟨m + 1, pre, by omega, by go_num, hP2.out, hJ _ _ _ hJs (((Below.refl _ wr).alloc (Nat.le_refl _) _).mono hkw.size), hkw.trans (Kept.alloc _ _ _)⟩
        case measure => simp [intOf]; omega
    · have hP2 : Hid (L = pre.map Subtype.val) := by
        refine HP.out.trans ?_
        rw [List.drop_eq_nil_of_le (by omega)]; simp [childrenFrom]
      gi_wp2
      go_end0
      exact ⟨⟨_, rfl⟩, .inl ⟨pre, hP2.out.symm, hJs⟩⟩
end Go.Proofs.YtfanaanofjhlkaaDoor
