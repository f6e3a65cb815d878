/-
  The links that begin at a worker, as the project makes them: new memory alone.
-/
import Derived.Test.YtdbbejedipfckaaGreatDoorRangeG
namespace Go.Proofs.YtdbbejedipfckaaGreatDoor
open Go Go.RowKit

theorem infoPOut : (Tryz.prog.info? 189).map (fun i => (i.zero, i.size, i.bytes)) = some (some (.pointer none), 1, 8) := by kernel_rfl
set_option maxHeartbeats 1000000 in
set_option maxRecDepth 100000 in
theorem newLinks_calls (i n : Nat) (w : World) (hn : n ≤ 5) (hi : i < n) :
    Calls Tryz.prog 113 #[.int .i64 i, .int .i64 n] w fun e w' => ∃ (g : Nat) (part : Nat → Nat), e = .returned (.slice (some ⟨g, 0, none⟩) n n) ∧ (∀ b, part b ≠ 0 → w.heap.size ≤ b ∧ (part b = 9 ∨ (100 + 10 * i ≤ part b ∧ part b < 100 + 10 * i + n))) ∧ XLinksAt part i w' (.slice (some ⟨g, 0, none⟩) n n) (List.replicate n link0) ∧ Below w.heap.size w w' := by
  obtain ⟨i0, hi0, hz0, hz1, hz2⟩ := info_parts infoPOut
  go_enter Tryz.func113, Tryz.ntmps113
  go_wp2_with (at_make; refine wpList_make_full _ rfl _ _ 133 rfl w.heap.size 189 i0 _ 1 Tryz.underlying133 hi0 hz0 hz1 .i64 .i64 _ _ n rfl rfl (by simp) (by simp) (by rw [hz2]; omega) (by unfold maxLen; omega) (Nat.le_refl _) ?_; intro w1 hown1 hgrow1)
  obtain ⟨cur, hcur, hcn, hc0⟩ : ∃ cur, BoxAt w1 w.heap.size 189 cur ∧ cur.size = n ∧ ∀ j, j < n → cur[j]? = some (Value.pointer none) := by
    rcases hown1.2 with ⟨h0, _⟩ | ⟨g', cap', cur, h0, hb, hcur, hnc, hcm, hcs, htk⟩
    · cases h0
    · cases h0
      have hsz : cur.size = n := by rw [hcs]; omega
      refine ⟨cur, hcur, hsz, fun j hj => ?_⟩
      have h1 := congrArg (fun l => l[j]?) htk
      simp only [List.getElem?_take, show j < n * 1 by omega, if_true, Array.getElem?_toList] at h1
      rw [h1]
      simp [madeCells, Value.cells, hj, Nat.mod_one]
  have hb1 : Below w.heap.size w w1 := (Kept.grown hgrow1 (X := fun _ => False) (fun r e => by cases e)).below (Nat.le_refl _) (fun _ h => h.elim)
  have HCUR := hid_of hcur
  have HB1 := hid_of hb1
  have hCN : Hid (cur.size = n) := hcn
  have HC0 := hid_of hc0
  have hls := hcur.lt
  clear hown1 hgrow1 hcur hb1 hcn hc0
  go_loopw [11] (fun iv wr => ∃ (k : Nat) (cur : Array Value) (part : Nat → Nat) (qs : List (Option Nat)), k ≤ n ∧ iv = .int .i64 k ∧ BoxAt wr w.heap.size 189 cur ∧ cur.size = n ∧ (∀ j, k ≤ j → j < n → cur[j]? = some (Value.pointer none)) ∧ qs.length = k ∧ (∀ (j : Nat) (q : Option Nat), qs[j]? = some q → cur[j]? = some (Value.pointer (q.map (fun b => (⟨b, 0, none⟩ : Addr))))) ∧
    (∀ b, part b ≠ 0 → w.heap.size < b ∧ 100 + 10 * i ≤ part b ∧ part b < 100 + 10 * i + n) ∧ (∀ j q, qs[j]? = some q → EndAt part i j wr link0 q) ∧ Below w.heap.size w wr) (fun iv _ => n - (intOf iv).toNat)
  case atStart => exact ⟨0, cur, fun _ => 0, [], Nat.zero_le _, rfl, HCUR.out, hCN.out, (fun j _ h => HC0.out j h), rfl, (fun j q h => by simp at h), (fun b h => absurd rfl h), (fun j q h => by simp at h), HB1.out⟩
  case round =>
    obtain ⟨k, cu, part, qs, hk, rfl, hbox, hcz, hc0, hql, hqc, hpt, hqe, hbw⟩ := hrel
    rename World => wr
    have HBOX := hid_of hbox
    have HBW := hid_of hbw
    have HCZ : Hid (cu.size = n) := hcz
    have HQ0 := hid_of hc0
    have HQL : Hid (qs.length = k) := hql
    have HQC := hid_of hqc
    have HPT := hid_of hpt
    have HQE := hid_of hqe
    have hsz := hbw.size
    have hlt0 := hbox.lt
    clear hbox hbw hcz hc0 hql hqc hpt hqe
    by_cases hlt : k < n
    · have j1 : (0 : Int) ≤ (k : Int) := by omega
      have j2 : (k : Int) < (n : Int) := by omega
      have HV0 := hid_of (HQ0.out k (Nat.le_refl _) hlt)
      by_cases hki : k = i
      · have hne : ((k : Int) != (i : Int)) = false := by simp [hki]
        have HKI : Hid (k = i) := hki
        clear hki
        go_wp2_with fail
        go_roundw
        case rel =>
          refine ⟨k + 1, cu, part, qs ++ [none], by omega, by go_num, HBOX.out, HCZ.out, (fun j h1 h2 => HQ0.out j (by omega) h2), by rw [List.length_append, HQL.out]; rfl, fun j q hq => ?_, HPT.out, fun j q hq => ?_, HBW.out⟩
          · rcases get_snoc hq with ⟨_, hq'⟩ | ⟨hj, rfl⟩
            · exact HQC.out j q hq'
            · rw [HQL.out] at hj; subst hj; exact HV0.out
          · rcases get_snoc hq with ⟨_, hq'⟩ | ⟨hj, rfl⟩
            · exact HQE.out j q hq'
            · rw [HQL.out] at hj; subst hj; exact ⟨HKI.out, rfl⟩
        case measure => simp [intOf]; omega
      · have hne : ((k : Int) != (i : Int)) = true := by simp; omega
        have HKI : Hid (k ≠ i) := hki
        clear hki
        go_wp2_with (go_at_call 148; refine (newOut_calls wr).mono ?_; rintro e w2 ⟨T, rfl, hT2, hb2⟩; have hbx2 := HBOX.out.below hb2 hlt0; have y0 := hbx2.cell HV0.out; have z0 := hbx2.frozen k)
        go_roundw
        case rel =>
          have k23 : Kept (· = w.heap.size) w2 (w2.setCell ⟨w.heap.size, k, none⟩ (.pointer (some ⟨T, 0, none⟩))) := (Kept.refl _ _).setCell (.inl (by rfl)) _
          have kr3 : Kept (· = w.heap.size) wr (w2.setCell ⟨w.heap.size, k, none⟩ (.pointer (some ⟨T, 0, none⟩))) := (Kept.of_below hb2 (X := (· = w.heap.size)) (fun b h1 h2 => by omega)).andThen k23 (fun b _ h => h)
          refine ⟨k + 1, _, fun b => if b < wr.heap.size then part b else 100 + 10 * i + k, qs ++ [some T], by omega, by go_num, hbx2.setAt k _, by simp [HCZ.out], fun j h1 h2 => ?_, by rw [List.length_append, HQL.out]; rfl, fun j q hq => ?_, fun b hb => ?_, fun j q hq => ?_, ?_⟩
          · rw [Array.getElem?_setIfInBounds_ne (by omega)]; exact HQ0.out j (by omega) h2
          · rcases get_snoc hq with ⟨hj, hq'⟩ | ⟨hj, rfl⟩
            · rw [HQL.out] at hj
              rw [Array.getElem?_setIfInBounds_ne (by omega)]; exact HQC.out j q hq'
            · rw [HQL.out] at hj; subst hj
              rw [Array.getElem?_setIfInBounds_self_of_lt (by rw [HCZ.out]; exact hlt)]; rfl
          · dsimp only at hb ⊢
            by_cases h : b < wr.heap.size
            · rw [if_pos h] at hb ⊢; exact HPT.out b hb
            · rw [if_neg h]; exact ⟨by omega, by omega, by omega⟩
          · rcases get_snoc hq with ⟨hj, hq'⟩ | ⟨hj, rfl⟩
            · exact (HQE.out j q hq').kept kr3 (fun g hg h => ⟨fun h' => by have := HPT.out g (by omega); omega, (if_pos hg).trans h⟩)
            · rw [HQL.out] at hj; subst hj
              exact ⟨HKI.out, hT2.kept k23 (fun g hg h => ⟨fun h' => by omega, if_neg (by omega)⟩)⟩
          · exact (HBW.out.trans (hb2.mono hsz)).setCell (Nat.le_refl _) _
        case measure => simp [intOf]; omega
    · obtain rfl : n = k := by omega
      go_wp2_with fail
      go_ret
      refine ⟨_, fun b => if b = w.heap.size then 9 else part b, rfl, fun b hb => ?_, ⟨qs, ⟨?_, fun g e => ?_⟩, by rw [HQL.out]; simp, fun j q l hq hl => ?_⟩, HBW.out⟩
      · dsimp only at hb ⊢
        by_cases h : b = w.heap.size
        · rw [if_pos h]; exact ⟨by omega, .inl rfl⟩
        · rw [if_neg h] at hb ⊢
          have := HPT.out b hb
          exact ⟨by omega, .inr this.2⟩
      · have := row_of_cells (base := 0) (n := n) (sz := 1) (enc := optEnc) (xs := qs) (by omega) (fun _ => rfl) HBOX.out (Nat.zero_le _) (by rw [HCZ.out]; omega) HQL.out (by unfold maxLen; omega) (fun j x i' u hx hu => by
          match i', hu with
          | 0, hu => cases hu; simpa using HQC.out j x hx
          | (m + 1), hu => simp [optEnc] at hu)
        rw [HQL.out]
        exact this
      · simp [Value.ownBlock] at e
        exact if_pos e.symm
      · rw [replicate_get hl]
        exact (HQE.out j q hq).kept (Kept.refl (fun _ => False) _) (fun g hg h => ⟨fun h => h, (if_neg (by have := HPT.out g (by omega); omega)).trans h⟩)
end Go.Proofs.YtdbbejedipfckaaGreatDoor
/-
  tree.Copy makes a program's copy that shares no list with it.
-/
namespace Go.Proofs.YtdbbejedipfckaaGreatDoor
open Go Go.RowKit

theorem kinds_set (l : List (KindS × Value)) : ∀ (k : Nat) (c : KindS) (o v : Value), l[k]? = some (c, o) → (l.flatMap kindEnc).set (k * 3 + 2) v = (l.set k (c, v)).flatMap kindEnc := by
  induction l with
  | nil => intro k c o v h; simp at h
  | cons x r ih =>
    intro k c o v h
    cases k with
    | zero => simp at h; subst h; rfl
    | succ k =>
      have h' := ih k c o v (by simpa using h)
      rw [List.flatMap_cons, List.set_cons_succ, List.flatMap_cons, ← h']
      show List.set ([.int .i64 x.1.A, .int .i64 x.1.B, x.2] ++ r.flatMap kindEnc) _ _ = _
      rw [List.set_append_right _ _ (by simp; omega)]
      congr 2
      simp; omega

theorem row_raise {W : World} {base e size n g cap : Nat} {xs : List Value} (h : W.ownsRow 0 e size (.slice (some ⟨g, 0, none⟩) n cap) n xs) (hb : base ≤ g) : W.ownsRow base e size (.slice (some ⟨g, 0, none⟩) n cap) n xs := by
  obtain ⟨h1, h2⟩ := h
  rcases h2 with ⟨h0, _⟩ | ⟨g', cap', cur, h0, _, h3⟩
  · cases h0
  · cases h0
    exact ⟨h1, .inr ⟨g, cap, cur, rfl, hb, h3⟩⟩
/-- A call of a function of one argument, by its contract. -/
theorem step_call1 {P : Program} {ops : Array Oper} {o : Oper} {a : Act} {w : World} {K : Act → World → Prop} {Q : Exit → Act → World → Prop} {E : Prop} {R : Value → World → Prop}
    (hg : o.guard = none) (f : Nat) (x : Operand) (tys : Array TypeId) (hop : o.op = Op.call { callee := Callee.value (Operand.func f), args := #[x], argTypes := tys }) (v1 : Value) (hx : a.eval x = v1)
    (he : ∀ args w, (callFunc f args).run P w = .ok (.enter f args) w) (hc : Calls P f #[v1] w fun e w' => ∃ v, e = .returned v ∧ R v w') (hK : ∀ v w', R v w' → K (a.put o.dst v) w') :
    if Region.wanted o (yielded ops a.tmps) = true then Oper.wp P o a w K Q else E := by
  have hw : Region.wanted o (yielded ops a.tmps) = true := by simp [Region.wanted, hg]
  rw [if_pos hw]
  have hf : a.eval (Operand.func f) = .func (.func f) #[] #[] := rfl
  unfold Oper.wp execOp
  simp only [hop, resolve, invoke, hf, Sem.run_bind, List.map_toArray, List.map_cons, List.map_nil, hx]
  simp [Deferred.ofValue, he, go_sem]
  refine hc.mono ?_
  rintro e w' ⟨v, rfl, hR⟩
  exact hK v w' hR
theorem row_frozen {W : World} {base e size n g cap : Nat} {xs : List Value} (h : W.ownsRow base e size (.slice (some ⟨g, 0, none⟩) n cap) n xs) (o : Nat) : W.frozen? ⟨g, o, none⟩ = false := by
  rcases h.2 with ⟨h0, _⟩ | ⟨g', cap', cur, h0, hb, hcur, _⟩
  · cases h0
  · cases h0
    exact BoxAt.frozen hcur o

set_option maxHeartbeats 4000000 in
set_option maxRecDepth 100000 in
theorem copy_calls (a : Option Addr) (cap : Nat) (kind arg : Int) (ks : List KindS) (w : World) (hk : KindsAt (fun _ => True) w (.slice a ks.length cap) ks) (hprog : progB ks kind arg = true) :
    Calls Tryz.prog 68 #[.agg #[.slice a ks.length cap, .int .i64 kind, .int .i64 arg]] w fun e w' => ∃ a' c', e = .returned (.agg #[.slice a' ks.length c', .int .i64 kind, .int .i64 arg]) ∧ KindsAt (fun b => w.heap.size ≤ b) w' (.slice a' ks.length c') ks ∧ Below w.heap.size w w' := by
  have hlen5 : ks.length ≤ 5 := by simp [progB, rangeB] at hprog; omega
  have HKL : Hid (∀ k ∈ ks, k.kids.length ≤ 3) := fun k hk => by
    simp [progB] at hprog
    have := hprog.1.1.2 k hk
    simp [kindB] at this
    exact this.1.2
  obtain ⟨V, hV⟩ : ∃ V, (w.alloc (Obj.cells #[.slice a ks.length cap, .int .i64 kind, .int .i64 arg] 42)).alloc (Obj.cells #[.slice none 0 0, .int .i64 0, .int .i64 0] 42) = V := ⟨_, rfl⟩
  have bP : BoxAt V w.heap.size 42 #[.slice a ks.length cap, .int .i64 kind, .int .i64 arg] := by rw [← hV]; exact (BoxAt.new w _ _).alloc _
  have bZ : BoxAt V (w.heap.size + 1) 42 #[.slice none 0 0, .int .i64 0, .int .i64 0] := by
    rw [← hV]; have := BoxAt.new (w.alloc (Obj.cells #[.slice a ks.length cap, .int .i64 kind, .int .i64 arg] 42)) 42 #[.slice none 0 0, .int .i64 0, .int .i64 0]
    rw [World.size_alloc] at this; exact this
  have hbV : Below w.heap.size w V := by rw [← hV]; exact ((Below.refl _ _).alloc (Nat.le_refl _) _).alloc (by simp) _
  have sV : V.heap.size = w.heap.size + 2 := by rw [← hV]; simp
  have kV : KindsAt (fun b => b < w.heap.size) V (.slice a ks.length cap) ks := (hk.below.kept (Kept.of_below hbV (X := fun b => w.heap.size ≤ b) (fun _ _ h => h)) (fun b h1 h2 => by omega)).mono' (fun _ h => h.2)
  obtain ⟨l0, hl0, hla, hlk⟩ := kinds_list kV
  have hll : l0.length = ks.length := by rw [← hl0]; simp
  have HCK := hid_of (cloneK_calls (.slice a ks.length cap) l0 V hla (by omega) (fun p hp => by obtain ⟨a', c', e, _⟩ := hlk p hp; rw [e]; rfl))
  rw [hll] at HCK
  have p0 := bP.cell (o := 0) rfl
  have HBP := hid_of bP
  have HBZ := hid_of bZ
  have HBV := hid_of hbV
  have HL0 : Hid (l0.map Prod.fst = ks) := hl0
  have HLK := hid_of hlk
  have HLL0 : Hid (l0.length = ks.length) := hll
  clear bP bZ hbV kV hk hl0 hla hlk hprog hll
  go_enter Tryz.func68, Tryz.ntmps68
  go_upto_region 2 with (go_at_call 110; refine HCK.out.mono ?_; rintro e w1 ⟨v1, rfl, hrow1, hb1⟩; obtain ⟨a1, c1, rfl⟩ := row_form hrow1; have hP1 := HBP.out.below hb1 HBP.out.lt; have x0 := hP1.cell (o := 0) rfl; have f0 := hP1.frozen 0)
  obtain ⟨w2, hw2⟩ : ∃ w2, w1.setCell ⟨w.heap.size, 0, none⟩ (.slice a1 ks.length c1) = w2 := ⟨_, rfl⟩
  have k12 : Kept (· = w.heap.size) w1 w2 := by rw [← hw2]; exact (Kept.refl _ _).setCell (.inl (by rfl)) _
  have HP2 : Hid (BoxAt w2 w.heap.size 42 #[.slice a1 ks.length c1, .int .i64 kind, .int .i64 arg]) := by rw [← hw2]; exact hP1.setAt 0 _
  have hs1 := hb1.size
  have hs2 := k12.size
  have HZ2 : Hid (BoxAt w2 (w.heap.size + 1) 42 #[.slice none 0 0, .int .i64 0, .int .i64 0]) := (HBZ.out.below hb1 HBZ.out.lt).kept k12 (by omega)
  have HROW2 : Hid (w2.ownsRow V.heap.size 111 3 (.slice a1 ks.length c1) ks.length (l0.flatMap kindEnc)) := row_kept hrow1 k12 (fun g e h => by subst h; exact row_ne hrow1 hP1 (by decide) e) (Nat.le_refl _)
  have HB2 : Hid (Below w.heap.size w w2) := (HBV.out.trans (hb1.mono (by omega))).trans (k12.below (by omega) (fun b h => by omega))
  have HLK2 : Hid (∀ p ∈ l0, KidsAt (fun b => b < w.heap.size) w2 p.2 p.1.kids) := fun p hp => ((HLK.out p hp).kept (Kept.of_below hb1 (X := fun b => V.heap.size ≤ b) (fun _ _ h => h)) (fun b h1 h2 => by omega)).kept k12 (fun b h1 h2 => by omega)
  rw [hw2]
  clear hw2 hrow1 hb1 hP1 x0 f0 k12 p0 hV
  have x0 := HP2.out.cell (o := 0) rfl
  go_wp2_with fail
  go_loopw [11] (fun iv wr => ∃ (k : Nat) (l : List (KindS × Value)), k ≤ ks.length ∧ iv = .int .i64 k ∧ l.map Prod.fst = ks ∧ wr.ownsRow V.heap.size 111 3 (.slice a1 ks.length c1) ks.length (l.flatMap kindEnc) ∧ (∀ j p, l[j]? = some p → (j < k → wr.ownsRow V.heap.size 108 2 p.2 p.1.kids.length (kidCells p.1.kids)) ∧ (k ≤ j → KidsAt (fun b => b < w.heap.size) wr p.2 p.1.kids)) ∧ Kept (fun b => V.heap.size ≤ b) w2 wr) (fun iv _ => ks.length - (intOf iv).toNat)
  case atStart => exact ⟨0, l0, Nat.zero_le _, rfl, HL0.out, HROW2.out, fun j p hp => ⟨fun h => absurd h (by omega), fun _ => HLK2.out p (List.mem_of_getElem? hp)⟩, Kept.refl _ _⟩
  case round =>
    obtain ⟨k, l, hk, rfl, hlm, hrow, hkd, hkw⟩ := hrel
    rename World => wr
    have HROW := hid_of hrow
    have HKD := hid_of hkd
    have HKW := hid_of hkw
    have HLM : Hid (l.map Prod.fst = ks) := hlm
    have hsr := hkw.size
    have HPr : Hid (BoxAt wr w.heap.size 42 #[.slice a1 ks.length c1, .int .i64 kind, .int .i64 arg]) := HP2.out.kept hkw (by omega)
    have HZr : Hid (BoxAt wr (w.heap.size + 1) 42 #[.slice none 0 0, .int .i64 0, .int .i64 0]) := HZ2.out.kept hkw (by omega)
    have HLL : Hid (l.length = ks.length) := by show _ = _; rw [← hlm]; simp
    have y0 := HPr.out.cell (o := 0) rfl
    clear x0 hrow hkd hkw hlm
    by_cases hlt : k < ks.length
    · obtain ⟨pr, hpr⟩ : ∃ p, l[k]? = some p := ⟨_, List.getElem?_eq_getElem (by rw [HLL.out]; exact hlt)⟩
      obtain ⟨c, kv⟩ := pr
      have hka := (HKD.out k _ hpr).2 (Nat.le_refl _)
      have hcm : c ∈ ks := by rw [← HLM.out]; exact List.mem_map.2 ⟨_, List.mem_of_getElem? hpr, rfl⟩
      have hc3 : c.kids.length ≤ 3 := HKL.out c hcm
      have HPRK : Hid (l[k]? = some (c, kv)) := hpr
      have HCD : Hid (∀ U, Below wr.heap.size wr U → Calls Tryz.prog 111 #[kv] U fun e w' => ∃ v, e = .returned v ∧ (w'.ownsRow V.heap.size 108 2 v c.kids.length (c.kids.flatMap kidEnc) ∧ Below wr.heap.size wr w')) := fun U hU => by
        refine (cloneD_calls kv c.kids U ((kids_list hka).below hU (Nat.le_refl _)) (by omega)).mono ?_
        rintro e w' ⟨v', rfl, h1, h2⟩
        exact ⟨v', rfl, ownsRow_base h1 (by have := hU.size; omega), hU.trans (h2.mono hU.size)⟩
      obtain ⟨ka, kc, hkf, -⟩ := hka
      dsimp only at hkf
      subst hkf
      obtain ⟨g, cp, hgf, hg1, hg2⟩ := World.ownsRow.form HROW.out (by omega)
      cases hgf
      have e2 : wr.cell? ⟨g, k * 3 + 2, none⟩ = some (.slice ka c.kids.length kc) := by
        have := HROW.out.cells (g := g) rfl (k * 3 + 2) _ (flat_get (sz := 3) (enc := kindEnc) (fun _ => rfl) l k _ 2 _ hpr rfl)
        rwa [addr_add] at this
      have j1 : (0 : Int) ≤ (k : Int) := by omega
      have j2 : (k : Int) < (ks.length : Int) := by omega
      clear hpr hcm
      go_upto_region 5 with fail
      go_region_law (refine step_call1 (by rfl) 111 _ _ (by rfl) (.slice ka c.kids.length kc) (by rfl) (enters_of Tryz.func111 (by kernel_rfl) rfl) (HCD.out _ (by first | assumption | exact Below.refl _ _ | exact (Below.refl _ _).drew | exact Below.drew (by assumption))) ?_; rintro v9 w9 ⟨hr9, hb9⟩; obtain ⟨a9, c9, rfl⟩ := row_form hr9; have hP9 := HPr.out.below hb9 HPr.out.lt; have u0 := hP9.cell (o := 0) rfl; have hrw9 := row_below HROW.out hb9 (fun g e => (HROW.out.lt g e).2); have u2 : w9.cell? ⟨g, k * 3 + 2, none⟩ = some (.slice ka c.kids.length kc) := (hb9.cell (p := ⟨g, k * 3 + 2, none⟩) hg2).trans e2; have u3 : w9.frozen? ⟨g, k * 3 + 2, none⟩ = false := row_frozen hrw9 _)
      all_goals
        go_wp2_with fail
        go_roundw
        case rel =>
          have k9 : Kept (fun b => V.heap.size ≤ b) wr (w9.setCell ⟨g, k * 3 + 2, none⟩ (.slice a9 c.kids.length c9)) := (Kept.of_below hb9 (X := fun b => V.heap.size ≤ b) (fun b h1 h2 => by omega)).trans ((Kept.refl _ _).setCell (.inl hg1) _)
          have ks9 : Kept (· = g) w9 (w9.setCell ⟨g, k * 3 + 2, none⟩ (.slice a9 c.kids.length c9)) := (Kept.refl _ _).setCell (.inl (by rfl)) _
          have hkid : ∀ (u : Value) (d : List KidS), w9.ownsRow V.heap.size 108 2 u d.length (kidCells d) → (w9.setCell ⟨g, k * 3 + 2, none⟩ (.slice a9 c.kids.length c9)).ownsRow V.heap.size 108 2 u d.length (kidCells d) := fun u d h => row_kept h ks9 (fun g' e h' => by
            subst h'
            obtain ⟨cs1, h1⟩ := row_obj h e
            obtain ⟨cs2, h2⟩ := row_obj hrw9 (g := g') rfl
            have := h1.symm.trans h2
            simp at this) (Nat.le_refl _)
          refine ⟨k + 1, l.set k (c, .slice a9 c.kids.length c9), by omega, by go_num, ?_, ?_, fun j p hp => ?_, HKW.out.trans k9⟩
          · have hcc : (l.map Prod.fst)[k]? = some c := by rw [List.getElem?_map, HPRK.out]; rfl
            rw [List.map_set]
            refine Eq.trans ?_ HLM.out
            refine List.ext_getElem? fun i => ?_
            by_cases h : k = i
            · subst h
              rw [hcc, List.getElem?_set_self (by rw [List.length_map, HLL.out]; exact hlt)]
            · rw [List.getElem?_set_ne h]
          · rw [← kinds_set l k c _ _ HPRK.out]
            exact row_raise (row_putAll (e := 111) (sz := 3) (n := ks.length) (g := g) [.slice a9 c.kids.length c9] (l.flatMap kindEnc) (k * 3 + 2) w9 (ownsRow_base hrw9 (Nat.zero_le _)) (by show k * 3 + 2 + 1 ≤ ks.length * 3; omega)) hg1
          · by_cases h : k = j
            · subst h
              rw [List.getElem?_set_self (by rw [HLL.out]; exact hlt)] at hp
              cases hp
              exact ⟨fun _ => hkid _ _ hr9, fun h => absurd h (by omega)⟩
            · rw [List.getElem?_set_ne h] at hp
              refine ⟨fun hj => hkid _ _ (row_below ((HKD.out j p hp).1 (by omega)) hb9 (fun g' e => (((HKD.out j p hp).1 (by omega)).lt g' e).2)), fun hj => ((HKD.out j p hp).2 (by omega)).kept k9 (fun b h1 h2 => by omega)⟩
        case measure => simp [intOf]; omega
    · obtain rfl : k = ks.length := by omega
      have p0 := HPr.out.cell (o := 0) rfl
      have p1 := HPr.out.cell (o := 1) rfl
      have p2 := HPr.out.cell (o := 2) rfl
      have z0 := HZr.out.cell (o := 0) rfl
      have z1 := HZr.out.cell (o := 1) rfl
      have z2 := HZr.out.cell (o := 2) rfl
      have f0 := HZr.out.frozen 0
      have f1 := HZr.out.frozen 1
      have f2 := HZr.out.frozen 2
      go_wp2_with fail
      have kz : Kept (· = w.heap.size + 1) wr (((wr.setCell ⟨w.heap.size + 1, 0, none⟩ (.slice a1 ks.length c1)).setCell ⟨w.heap.size + 1, 1, none⟩ (.int .i64 kind)).setCell ⟨w.heap.size + 1, 2, none⟩ (.int .i64 arg)) := (((Kept.refl _ _).setCell (.inl (by rfl)) _).setCell (.inl (by rfl)) _).setCell (.inl (by rfl)) _
      have hbz := ((HZr.out.setAt 0 (.slice a1 ks.length c1)).setAt 1 (.int .i64 kind)).setAt 2 (.int .i64 arg)
      have r0 := hbz.cell (o := 0) rfl
      have r1 := hbz.cell (o := 1) rfl
      have r2 := hbz.cell (o := 2) rfl
      refine bodyPost_ret (v := .agg #[.slice a1 ks.length c1, .int .i64 kind, .int .i64 arg]) (by simp [results, Tryz.results68, go_sem, r0, r1, r2]) rfl ⟨_, _, rfl, ?_, ?_⟩
      · have hKR : KindsRow wr V.heap.size (.slice a1 ks.length c1) l := ⟨by rw [HLL.out]; exact HROW.out, fun p hp => by
          obtain ⟨j, hj⟩ := List.mem_iff_getElem?.1 hp
          have hjl := (List.getElem?_eq_some_iff.1 hj).1
          exact (HKD.out j p hj).1 (by have := HLL.out; omega)⟩
        have h := hKR.at
        rw [HLM.out] at h
        exact (h.kept kz (fun b h1 h2 => by omega)).mono' (fun b hb => by omega)
      · exact (HB2.out.trans (HKW.out.below (by omega) (fun b h => by omega))).trans (kz.below (by omega) (fun b h => by omega))
end Go.Proofs.YtdbbejedipfckaaGreatDoor
