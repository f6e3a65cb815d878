/-
  The links that begin at a worker, as the project makes them: new memory alone.
-/
import Derived.Test.YtgbneeohaboncaaGreatDoorXMake
namespace Go.Proofs.YtgbneeohaboncaaGreatDoor
open Go Go.RowKit

theorem infoPOut : (Tryz.prog.info? 180).map (fun i => (i.zero, i.size, i.bytes)) = some (some (.pointer none), 1, 8) := by kernel_rfl
set_option maxHeartbeats 1000000 in
set_option maxRecDepth 100000 in
theorem newLinks_calls (i n : Nat) (w : World) (hn : n ≤ 5) (hi : i < n) :
    Calls Tryz.prog 103 #[.int .i64 i, .int .i64 n] w fun e w' => ∃ g, e = .returned (.slice (some ⟨g, 0, none⟩) n n) ∧ Below w.heap.size w w' := by
  obtain ⟨i0, hi0, hz0, hz1, hz2⟩ := info_parts infoPOut
  go_enter Tryz.func103, Tryz.ntmps103
  go_wp2_with (at_make; refine wpList_make_full _ rfl _ _ 133 rfl w.heap.size 180 i0 _ 1 Tryz.underlying133 hi0 hz0 hz1 .i64 .i64 _ _ n rfl rfl (by simp) (by simp) (by rw [hz2]; omega) (by unfold maxLen; omega) (Nat.le_refl _) ?_; intro w1 hown1 hgrow1)
  obtain ⟨cur, hcur, hcn⟩ : ∃ cur, BoxAt w1 w.heap.size 180 cur ∧ cur.size = n := by
    rcases hown1.2 with ⟨h0, _⟩ | ⟨g', cap', cur, h0, hb, hcur, hnc, hcm, hcs, htk⟩
    · cases h0
    · cases h0
      exact ⟨cur, hcur, by rw [hcs]; omega⟩
  have hb1 : Below w.heap.size w w1 := (Kept.grown hgrow1 (X := fun _ => False) (fun r e => by cases e)).below (Nat.le_refl _) (fun _ h => h.elim)
  have HCUR := hid_of hcur
  have HB1 := hid_of hb1
  have hCN : Hid (cur.size = n) := hcn
  clear hown1 hgrow1 hcur hb1 hcn
  go_loopw [11] (fun iv wr => ∃ (k : Nat) (cur : Array Value), k ≤ n ∧ iv = .int .i64 k ∧ BoxAt wr w.heap.size 180 cur ∧ cur.size = n ∧ Below w.heap.size w wr) (fun iv _ => n - (intOf iv).toNat)
  case atStart => exact ⟨0, cur, Nat.zero_le _, rfl, HCUR.out, hCN.out, HB1.out⟩
  case round =>
    obtain ⟨k, cu, hk, rfl, hbox, hcz, hbw⟩ := hrel
    rename World => wr
    have HBOX := hid_of hbox
    have HBW := hid_of hbw
    have HCZ : Hid (cu.size = n) := hcz
    have hsz := hbw.size
    have hlt0 := hbox.lt
    clear hbox hbw hcz
    by_cases hlt : k < n
    · have j1 : (0 : Int) ≤ (k : Int) := by omega
      have j2 : (k : Int) < (n : Int) := by omega
      obtain ⟨v0, hv0⟩ := get_some (cs := cu) (i := k) (by rw [HCZ.out]; exact hlt)
      have HV0 := hid_of hv0
      clear hv0
      by_cases hki : k = i
      · have hne : ((k : Int) != (i : Int)) = false := by simp [hki]
        go_wp2_with fail
        go_roundw
        case rel => exact ⟨k + 1, cu, by omega, by go_num, HBOX.out, HCZ.out, HBW.out⟩
        case measure => simp [intOf]; omega
      · have hne : ((k : Int) != (i : Int)) = true := by simp; omega
        go_wp2_with (go_at_call 124; refine (newOut_calls wr).mono ?_; rintro e w2 ⟨T, rfl, hb2⟩; have hbx2 := HBOX.out.below hb2 hlt0; have y0 := hbx2.cell HV0.out; have z0 := hbx2.frozen k)
        go_roundw
        case rel =>
          refine ⟨k + 1, _, by omega, by go_num, hbx2.setAt k _, by simp [HCZ.out], ?_⟩
          exact (HBW.out.trans (hb2.mono hsz)).setCell (Nat.le_refl _) _
        case measure => simp [intOf]; omega
    · go_wp2_with fail
      go_ret
      exact ⟨_, rfl, HBW.out⟩
end Go.Proofs.YtgbneeohaboncaaGreatDoor
/-
  tree.Copy makes a program's copy that shares no list with it.
-/
namespace Go.Proofs.YtgbneeohaboncaaGreatDoor
open Go Go.RowKit

theorem kinds_set (l : List (KindS × Value)) : ∀ (k : Nat) (c : KindS) (o v : Value), l[k]? = some (c, o) → (l.flatMap kindEnc).set (k * 3 + 2) v = (l.set k (c, v)).flatMap kindEnc := by
  induction l with
  | nil => intro k c o v h; simp at h
  | cons x r ih =>
    intro k c o v h
    cases k with
    | zero => simp at h; subst h; rfl
    | succ k =>
      have h' := ih k c o v (by simpa using h)
      rw [List.flatMap_cons, List.set_cons_succ, List.flatMap_cons, ← h']
      show List.set ([.int .i64 x.1.A, .int .i64 x.1.B, x.2] ++ r.flatMap kindEnc) _ _ = _
      rw [List.set_append_right _ _ (by simp; omega)]
      congr 2
      simp; omega

theorem row_raise {W : World} {base e size n g cap : Nat} {xs : List Value} (h : W.ownsRow 0 e size (.slice (some ⟨g, 0, none⟩) n cap) n xs) (hb : base ≤ g) : W.ownsRow base e size (.slice (some ⟨g, 0, none⟩) n cap) n xs := by
  obtain ⟨h1, h2⟩ := h
  rcases h2 with ⟨h0, _⟩ | ⟨g', cap', cur, h0, _, h3⟩
  · cases h0
  · cases h0
    exact ⟨h1, .inr ⟨g, cap, cur, rfl, hb, h3⟩⟩
/-- A call of a function of one argument, by its contract. -/
theorem step_call1 {P : Program} {ops : Array Oper} {o : Oper} {a : Act} {w : World} {K : Act → World → Prop} {Q : Exit → Act → World → Prop} {E : Prop} {R : Value → World → Prop}
    (hg : o.guard = none) (f : Nat) (x : Operand) (tys : Array TypeId) (hop : o.op = Op.call { callee := Callee.value (Operand.func f), args := #[x], argTypes := tys }) (v1 : Value) (hx : a.eval x = v1)
    (he : ∀ args w, (callFunc f args).run P w = .ok (.enter f args) w) (hc : Calls P f #[v1] w fun e w' => ∃ v, e = .returned v ∧ R v w') (hK : ∀ v w', R v w' → K (a.put o.dst v) w') :
    if Region.wanted o (yielded ops a.tmps) = true then Oper.wp P o a w K Q else E := by
  have hw : Region.wanted o (yielded ops a.tmps) = true := by simp [Region.wanted, hg]
  rw [if_pos hw]
  have hf : a.eval (Operand.func f) = .func (.func f) #[] #[] := rfl
  unfold Oper.wp execOp
  simp only [hop, resolve, invoke, hf, Sem.run_bind, List.map_toArray, List.map_cons, List.map_nil, hx]
  simp [Deferred.ofValue, he, go_sem]
  refine hc.mono ?_
  rintro e w' ⟨v, rfl, hR⟩
  exact hK v w' hR
theorem row_frozen {W : World} {base e size n g cap : Nat} {xs : List Value} (h : W.ownsRow base e size (.slice (some ⟨g, 0, none⟩) n cap) n xs) (o : Nat) : W.frozen? ⟨g, o, none⟩ = false := by
  rcases h.2 with ⟨h0, _⟩ | ⟨g', cap', cur, h0, hb, hcur, _⟩
  · cases h0
  · cases h0
    exact BoxAt.frozen hcur o

set_option maxHeartbeats 4000000 in
set_option maxRecDepth 100000 in
theorem copy_calls (a : Option Addr) (cap : Nat) (kind arg : Int) (ks : List KindS) (w : World) (hk : KindsAt (fun _ => True) w (.slice a ks.length cap) ks) (hprog : progB ks kind arg = true) :
    Calls Tryz.prog 67 #[.agg #[.slice a ks.length cap, .int .i64 kind, .int .i64 arg]] w fun e w' => ∃ a' c', e = .returned (.agg #[.slice a' ks.length c', .int .i64 kind, .int .i64 arg]) ∧ KindsAt (fun b => w.heap.size ≤ b) w' (.slice a' ks.length c') ks ∧ Below w.heap.size w w' := by
  have hlen5 : ks.length ≤ 5 := by simp [progB, rangeB] at hprog; omega
  have HKL : Hid (∀ k ∈ ks, k.kids.length ≤ 3) := fun k hk => by
    simp [progB] at hprog
    have := hprog.1.1.2 k hk
    simp [kindB] at this
    exact this.1.2
  obtain ⟨V, hV⟩ : ∃ V, (w.alloc (Obj.cells #[.slice a ks.length cap, .int .i64 kind, .int .i64 arg] 42)).alloc (Obj.cells #[.slice none 0 0, .int .i64 0, .int .i64 0] 42) = V := ⟨_, rfl⟩
  have bP : BoxAt V w.heap.size 42 #[.slice a ks.length cap, .int .i64 kind, .int .i64 arg] := by rw [← hV]; exact (BoxAt.new w _ _).alloc _
  have bZ : BoxAt V (w.heap.size + 1) 42 #[.slice none 0 0, .int .i64 0, .int .i64 0] := by
    rw [← hV]; have := BoxAt.new (w.alloc (Obj.cells #[.slice a ks.length cap, .int .i64 kind, .int .i64 arg] 42)) 42 #[.slice none 0 0, .int .i64 0, .int .i64 0]
    rw [World.size_alloc] at this; exact this
  have hbV : Below w.heap.size w V := by rw [← hV]; exact ((Below.refl _ _).alloc (Nat.le_refl _) _).alloc (by simp) _
  have sV : V.heap.size = w.heap.size + 2 := by rw [← hV]; simp
  have kV : KindsAt (fun b => b < w.heap.size) V (.slice a ks.length cap) ks := (hk.below.kept (Kept.of_below hbV (X := fun b => w.heap.size ≤ b) (fun _ _ h => h)) (fun b h1 h2 => by omega)).mono' (fun _ h => h.2)
  obtain ⟨l0, hl0, hla, hlk⟩ := kinds_list kV
  have hll : l0.length = ks.length := by rw [← hl0]; simp
  have HCK := hid_of (cloneK_calls (.slice a ks.length cap) l0 V hla (by omega) (fun p hp => by obtain ⟨a', c', e, _⟩ := hlk p hp; rw [e]; rfl))
  rw [hll] at HCK
  have p0 := bP.cell (o := 0) rfl
  have HBP := hid_of bP
  have HBZ := hid_of bZ
  have HBV := hid_of hbV
  have HL0 : Hid (l0.map Prod.fst = ks) := hl0
  have HLK := hid_of hlk
  have HLL0 : Hid (l0.length = ks.length) := hll
  clear bP bZ hbV kV hk hl0 hla hlk hprog hll
  go_enter Tryz.func67, Tryz.ntmps67
  go_upto_region 2 with (go_at_call 100; refine HCK.out.mono ?_; rintro e w1 ⟨v1, rfl, hrow1, hb1⟩; obtain ⟨a1, c1, rfl⟩ := row_form hrow1; have hP1 := HBP.out.below hb1 HBP.out.lt; have x0 := hP1.cell (o := 0) rfl; have f0 := hP1.frozen 0)
  obtain ⟨w2, hw2⟩ : ∃ w2, w1.setCell ⟨w.heap.size, 0, none⟩ (.slice a1 ks.length c1) = w2 := ⟨_, rfl⟩
  have k12 : Kept (· = w.heap.size) w1 w2 := by rw [← hw2]; exact (Kept.refl _ _).setCell (.inl (by rfl)) _
  have HP2 : Hid (BoxAt w2 w.heap.size 42 #[.slice a1 ks.length c1, .int .i64 kind, .int .i64 arg]) := by rw [← hw2]; exact hP1.setAt 0 _
  have hs1 := hb1.size
  have hs2 := k12.size
  have HZ2 : Hid (BoxAt w2 (w.heap.size + 1) 42 #[.slice none 0 0, .int .i64 0, .int .i64 0]) := (HBZ.out.below hb1 HBZ.out.lt).kept k12 (by omega)
  have HROW2 : Hid (w2.ownsRow V.heap.size 111 3 (.slice a1 ks.length c1) ks.length (l0.flatMap kindEnc)) := row_kept hrow1 k12 (fun g e h => by subst h; exact row_ne hrow1 hP1 (by decide) e) (Nat.le_refl _)
  have HB2 : Hid (Below w.heap.size w w2) := (HBV.out.trans (hb1.mono (by omega))).trans (k12.below (by omega) (fun b h => by omega))
  have HLK2 : Hid (∀ p ∈ l0, KidsAt (fun b => b < w.heap.size) w2 p.2 p.1.kids) := fun p hp => ((HLK.out p hp).kept (Kept.of_below hb1 (X := fun b => V.heap.size ≤ b) (fun _ _ h => h)) (fun b h1 h2 => by omega)).kept k12 (fun b h1 h2 => by omega)
  rw [hw2]
  clear hw2 hrow1 hb1 hP1 x0 f0 k12 p0 hV
  have x0 := HP2.out.cell (o := 0) rfl
  go_wp2_with fail
  go_loopw [11] (fun iv wr => ∃ (k : Nat) (l : List (KindS × Value)), k ≤ ks.length ∧ iv = .int .i64 k ∧ l.map Prod.fst = ks ∧ wr.ownsRow V.heap.size 111 3 (.slice a1 ks.length c1) ks.length (l.flatMap kindEnc) ∧ (∀ j p, l[j]? = some p → (j < k → wr.ownsRow V.heap.size 108 2 p.2 p.1.kids.length (kidCells p.1.kids)) ∧ (k ≤ j → KidsAt (fun b => b < w.heap.size) wr p.2 p.1.kids)) ∧ Kept (fun b => V.heap.size ≤ b) w2 wr) (fun iv _ => ks.length - (intOf iv).toNat)
  case atStart => exact ⟨0, l0, Nat.zero_le _, rfl, HL0.out, HROW2.out, fun j p hp => ⟨fun h => absurd h (by omega), fun _ => HLK2.out p (List.mem_of_getElem? hp)⟩, Kept.refl _ _⟩
  case round =>
    obtain ⟨k, l, hk, rfl, hlm, hrow, hkd, hkw⟩ := hrel
    rename World => wr
    have HROW := hid_of hrow
    have HKD := hid_of hkd
    have HKW := hid_of hkw
    have HLM : Hid (l.map Prod.fst = ks) := hlm
    have hsr := hkw.size
    have HPr : Hid (BoxAt wr w.heap.size 42 #[.slice a1 ks.length c1, .int .i64 kind, .int .i64 arg]) := HP2.out.kept hkw (by omega)
    have HZr : Hid (BoxAt wr (w.heap.size + 1) 42 #[.slice none 0 0, .int .i64 0, .int .i64 0]) := HZ2.out.kept hkw (by omega)
    have HLL : Hid (l.length = ks.length) := by show _ = _; rw [← hlm]; simp
    have y0 := HPr.out.cell (o := 0) rfl
    clear x0 hrow hkd hkw hlm
    by_cases hlt : k < ks.length
    · obtain ⟨pr, hpr⟩ : ∃ p, l[k]? = some p := ⟨_, List.getElem?_eq_getElem (by rw [HLL.out]; exact hlt)⟩
      obtain ⟨c, kv⟩ := pr
      have hka := (HKD.out k _ hpr).2 (Nat.le_refl _)
      have hcm : c ∈ ks := by rw [← HLM.out]; exact List.mem_map.2 ⟨_, List.mem_of_getElem? hpr, rfl⟩
      have hc3 : c.kids.length ≤ 3 := HKL.out c hcm
      have HPRK : Hid (l[k]? = some (c, kv)) := hpr
      have HCD : Hid (∀ U, Below wr.heap.size wr U → Calls Tryz.prog 101 #[kv] U fun e w' => ∃ v, e = .returned v ∧ (w'.ownsRow V.heap.size 108 2 v c.kids.length (c.kids.flatMap kidEnc) ∧ Below wr.heap.size wr w')) := fun U hU => by
        refine (cloneD_calls kv c.kids U ((kids_list hka).below hU (Nat.le_refl _)) (by omega)).mono ?_
        rintro e w' ⟨v', rfl, h1, h2⟩
        exact ⟨v', rfl, ownsRow_base h1 (by have := hU.size; omega), hU.trans (h2.mono hU.size)⟩
      obtain ⟨ka, kc, hkf, -⟩ := hka
      dsimp only at hkf
      subst hkf
      obtain ⟨g, cp, hgf, hg1, hg2⟩ := World.ownsRow.form HROW.out (by omega)
      cases hgf
      have e2 : wr.cell? ⟨g, k * 3 + 2, none⟩ = some (.slice ka c.kids.length kc) := by
        have := HROW.out.cells (g := g) rfl (k * 3 + 2) _ (flat_get (sz := 3) (enc := kindEnc) (fun _ => rfl) l k _ 2 _ hpr rfl)
        rwa [addr_add] at this
      have j1 : (0 : Int) ≤ (k : Int) := by omega
      have j2 : (k : Int) < (ks.length : Int) := by omega
      clear hpr hcm
      go_upto_region 5 with fail
      go_region_law (refine step_call1 (by rfl) 101 _ _ (by rfl) (.slice ka c.kids.length kc) (by rfl) (enters_of Tryz.func101 (by kernel_rfl) rfl) (HCD.out _ (by first | assumption | exact Below.refl _ _ | exact (Below.refl _ _).drew | exact Below.drew (by assumption))) ?_; rintro v9 w9 ⟨hr9, hb9⟩; obtain ⟨a9, c9, rfl⟩ := row_form hr9; have hP9 := HPr.out.below hb9 HPr.out.lt; have u0 := hP9.cell (o := 0) rfl; have hrw9 := row_below HROW.out hb9 (fun g e => (HROW.out.lt g e).2); have u2 : w9.cell? ⟨g, k * 3 + 2, none⟩ = some (.slice ka c.kids.length kc) := (hb9.cell (p := ⟨g, k * 3 + 2, none⟩) hg2).trans e2; have u3 : w9.frozen? ⟨g, k * 3 + 2, none⟩ = false := row_frozen hrw9 _)
      all_goals
        go_wp2_with fail
        go_roundw
        case rel =>
          have k9 : Kept (fun b => V.heap.size ≤ b) wr (w9.setCell ⟨g, k * 3 + 2, none⟩ (.slice a9 c.kids.length c9)) := (Kept.of_below hb9 (X := fun b => V.heap.size ≤ b) (fun b h1 h2 => by omega)).trans ((Kept.refl _ _).setCell (.inl hg1) _)
          have ks9 : Kept (· = g) w9 (w9.setCell ⟨g, k * 3 + 2, none⟩ (.slice a9 c.kids.length c9)) := (Kept.refl _ _).setCell (.inl (by rfl)) _
          have hkid : ∀ (u : Value) (d : List KidS), w9.ownsRow V.heap.size 108 2 u d.length (kidCells d) → (w9.setCell ⟨g, k * 3 + 2, none⟩ (.slice a9 c.kids.length c9)).ownsRow V.heap.size 108 2 u d.length (kidCells d) := fun u d h => row_kept h ks9 (fun g' e h' => by
            subst h'
            obtain ⟨cs1, h1⟩ := row_obj h e
            obtain ⟨cs2, h2⟩ := row_obj hrw9 (g := g') rfl
            have := h1.symm.trans h2
            simp at this) (Nat.le_refl _)
          refine ⟨k + 1, l.set k (c, .slice a9 c.kids.length c9), by omega, by go_num, ?_, ?_, fun j p hp => ?_, HKW.out.trans k9⟩
          · have hcc : (l.map Prod.fst)[k]? = some c := by rw [List.getElem?_map, HPRK.out]; rfl
            rw [List.map_set]
            refine Eq.trans ?_ HLM.out
            refine List.ext_getElem? fun i => ?_
            by_cases h : k = i
            · subst h
              rw [hcc, List.getElem?_set_self (by rw [List.length_map, HLL.out]; exact hlt)]
            · rw [List.getElem?_set_ne h]
          · rw [← kinds_set l k c _ _ HPRK.out]
            exact row_raise (row_putAll (e := 111) (sz := 3) (n := ks.length) (g := g) [.slice a9 c.kids.length c9] (l.flatMap kindEnc) (k * 3 + 2) w9 (ownsRow_base hrw9 (Nat.zero_le _)) (by show k * 3 + 2 + 1 ≤ ks.length * 3; omega)) hg1
          · by_cases h : k = j
            · subst h
              rw [List.getElem?_set_self (by rw [HLL.out]; exact hlt)] at hp
              cases hp
              exact ⟨fun _ => hkid _ _ hr9, fun h => absurd h (by omega)⟩
            · rw [List.getElem?_set_ne h] at hp
              refine ⟨fun hj => hkid _ _ (row_below ((HKD.out j p hp).1 (by omega)) hb9 (fun g' e => (((HKD.out j p hp).1 (by omega)).lt g' e).2)), fun hj => ((HKD.out j p hp).2 (by omega)).kept k9 (fun b h1 h2 => by omega)⟩
        case measure => simp [intOf]; omega
    · obtain rfl : k = ks.length := by omega
      have p0 := HPr.out.cell (o := 0) rfl
      have p1 := HPr.out.cell (o := 1) rfl
      have p2 := HPr.out.cell (o := 2) rfl
      have z0 := HZr.out.cell (o := 0) rfl
      have z1 := HZr.out.cell (o := 1) rfl
      have z2 := HZr.out.cell (o := 2) rfl
      have f0 := HZr.out.frozen 0
      have f1 := HZr.out.frozen 1
      have f2 := HZr.out.frozen 2
      go_wp2_with fail
      have kz : Kept (· = w.heap.size + 1) wr (((wr.setCell ⟨w.heap.size + 1, 0, none⟩ (.slice a1 ks.length c1)).setCell ⟨w.heap.size + 1, 1, none⟩ (.int .i64 kind)).setCell ⟨w.heap.size + 1, 2, none⟩ (.int .i64 arg)) := (((Kept.refl _ _).setCell (.inl (by rfl)) _).setCell (.inl (by rfl)) _).setCell (.inl (by rfl)) _
      have hbz := ((HZr.out.setAt 0 (.slice a1 ks.length c1)).setAt 1 (.int .i64 kind)).setAt 2 (.int .i64 arg)
      have r0 := hbz.cell (o := 0) rfl
      have r1 := hbz.cell (o := 1) rfl
      have r2 := hbz.cell (o := 2) rfl
      refine bodyPost_ret (v := .agg #[.slice a1 ks.length c1, .int .i64 kind, .int .i64 arg]) (by simp [results, Tryz.results67, go_sem, r0, r1, r2]) rfl ⟨_, _, rfl, ?_, ?_⟩
      · have hKR : KindsRow wr V.heap.size (.slice a1 ks.length c1) l := ⟨by rw [HLL.out]; exact HROW.out, fun p hp => by
          obtain ⟨j, hj⟩ := List.mem_iff_getElem?.1 hp
          have hjl := (List.getElem?_eq_some_iff.1 hj).1
          exact (HKD.out j p hj).1 (by have := HLL.out; omega)⟩
        have h := hKR.at
        rw [HLM.out] at h
        exact (h.kept kz (fun b h1 h2 => by omega)).mono' (fun b hb => by omega)
      · exact (HB2.out.trans (HKW.out.below (by omega) (fun b h => by omega))).trans (kz.below (by omega) (fun b h => by omega))
end Go.Proofs.YtgbneeohaboncaaGreatDoor
/-
  How the project's Run lies in memory: definitions and small facts on them.
-/
namespace Go.Proofs.YtgbneeohaboncaaGreatDoor
open Go Go.RowKit

/-- A worker of the project's: the block of its tasks, its links, how many work messages it sent. -/
abbrev XW := Nat × Value × Int
def xwEnc (x : XW) : List Value := [.pointer (some ⟨x.1, 0, none⟩), x.2.1, .int .i64 x.2.2]
/-- A worker's list of tasks at block T. -/
def TaskListAt (X : Nat → Prop) (W : World) (T : Nat) (room : Int) (l : List TaskS) : Prop :=
  ∃ tv, BoxAt W T 167 #[tv, .int .i64 room] ∧ X T ∧ RowIn X 76 3 taskEnc W tv l
theorem TaskListAt.kept {X X' Y : Nat → Prop} {W W' : World} {T : Nat} {room : Int} {l : List TaskS} (h : TaskListAt X W T room l) (k : Kept Y W W') (hx : ∀ g, g < W.heap.size → X g → ¬ Y g ∧ X' g) : TaskListAt X' W' T room l := by
  obtain ⟨tv, h1, h2, h3⟩ := h
  exact ⟨tv, h1.kept k (hx T h1.lt h2).1, (hx T h1.lt h2).2, h3.kept k hx⟩
abbrev xrunCells (s : RunS) (kv wv : Value) (M : Nat) : Array Value := #[kv, .int .i64 s.kind, .int .i64 s.arg, wv, .slice none 0 0, .map (some M), .bool s.over]
/-- The project's Run at block B. part: 1 its own block; 3 the kept values; 6 the kinds; 7 the list of workers; 10 and i the tasks of worker i. -/
def XAt (part : Nat → Nat) (W : World) (B : Nat) (s : RunS) : Prop :=
  ∃ (kv wv : Value) (M : Nat) (D : DataW Unit) (xs : List XW),
    BoxAt W B 127 (xrunCells s kv wv M) ∧ part B = 1 ∧ KindsAt (fun b => part b = 6) W kv s.ks ∧
    (RowIn (fun b => part b = 7) 135 3 xwEnc W wv xs ∧ xs.length = s.W.length ∧ ∀ i x y, xs[i]? = some x → s.W[i]? = some y → TaskListAt (fun b => part b = 10 + i) W x.1 s.room y.tasks) ∧
    MapIs W M D ∧ part M = 3 ∧ Maps.size D ≤ s.values.length
theorem XAt.kept {part part' : Nat → Nat} {Y : Nat → Prop} {W W' : World} {B : Nat} {s : RunS} (h : XAt part W B s) (k : Kept Y W W') (hx : ∀ g, g < W.heap.size → part g ≠ 0 → ¬ Y g ∧ part' g = part g) : XAt part' W' B s := by
  obtain ⟨kv, wv, M, D, xs, h1, h2, h3, ⟨h4, h5, h6⟩, h7, h8, h9⟩ := h
  have hg : ∀ (n : Nat), n ≠ 0 → ∀ g, g < W.heap.size → part g = n → ¬ Y g ∧ part' g = n := fun n hn g hl e => ⟨(hx g hl (by omega)).1, (hx g hl (by omega)).2.trans e⟩
  have hB := hg 1 (by omega) B h1.lt h2
  have hM := hg 3 (by omega) M h7.lt h8
  refine ⟨kv, wv, M, D, xs, h1.kept k hB.1, hB.2, ?_, ⟨h4.kept k (hg 7 (by omega)), h5, fun i x y hx hy => (h6 i x y hx hy).kept k (hg _ (by omega))⟩, h7.kept k hM.1, hM.2, h9⟩
  exact (h3.below.kept k (fun b hb => (hg 6 (by omega) b hb.2 hb.1).1)).mono' (fun b hb => (hg 6 (by omega) b hb.2 hb.1).2)
/-- The project's Run in blocks that F names. -/
def XOK (F : Nat → Prop) (W : World) (B : Nat) (s : RunS) : Prop := ∃ part : Nat → Nat, (∀ b, part b ≠ 0 → F b) ∧ XAt part W B s
theorem XOK.kept {F F' Y : Nat → Prop} {W W' : World} {B : Nat} {s : RunS} (h : XOK F W B s) (k : Kept Y W W') (hx : ∀ g, g < W.heap.size → F g → ¬ Y g ∧ F' g) : XOK F' W' B s := by
  obtain ⟨part, h1, h2⟩ := h
  refine ⟨fun b => if b < W.heap.size then part b else 0, fun b hb => ?_, h2.kept k (fun g hl hp => ⟨(hx g hl (h1 g hp)).1, by simp [hl]⟩)⟩
  by_cases hl : b < W.heap.size
  · exact (hx b hl (h1 b (by simpa [hl] using hb))).2
  · simp [hl] at hb
theorem XOK.later {F : Nat → Prop} {W W' : World} {B : Nat} {s : RunS} (h : XOK F W B s) (hk : Below W.heap.size W W') : XOK F W' B s :=
  h.kept (Kept.of_below hk (X := fun b => W.heap.size ≤ b) (fun _ _ h => h)) (fun g hl hF => ⟨by omega, hF⟩)
/-- A block whose cells are a list's is the list's row. -/
theorem row_of_cells {α : Type} {sz t base n g : Nat} {enc : α → List Value} {W : World} {cur : Array Value} {xs : List α} (hsz : 0 < sz) (he : ∀ x, (enc x).length = sz) (hb : BoxAt W g t cur) (hg : base ≤ g) (hcs : cur.size = n * sz) (hx : xs.length = n) (hn : n ≤ maxLen)
    (hc : ∀ j x i u, xs[j]? = some x → (enc x)[i]? = some u → cur[j * sz + i]? = some u) : W.ownsRow base t sz (.slice (some ⟨g, 0, none⟩) n n) n (xs.flatMap enc) := by
  have hl : (xs.flatMap enc).length = n * sz := by rw [flat_length he, hx]
  have hcur : cur.toList = xs.flatMap enc := by
    refine List.ext_getElem? fun i => ?_
    rcases Nat.lt_or_ge i (n * sz) with hi | hi
    · have h1 : i / sz < n := (Nat.div_lt_iff_lt_mul hsz).2 hi
      have h2 : i % sz < sz := Nat.mod_lt _ hsz
      have e : i / sz * sz + i % sz = i := by rw [Nat.mul_comm]; exact Nat.div_add_mod _ _
      obtain ⟨x, hxx⟩ : ∃ x, xs[i / sz]? = some x := ⟨_, List.getElem?_eq_getElem (by omega)⟩
      obtain ⟨u, hu⟩ : ∃ u, (enc x)[i % sz]? = some u := ⟨_, List.getElem?_eq_getElem (by rw [he]; exact h2)⟩
      have h3 := hc _ x _ u hxx hu
      have h4 := flat_get he xs _ x _ u hxx hu
      rw [e] at h3 h4
      rw [h4, Array.getElem?_toList, h3]
    · rw [List.getElem?_eq_none (by rw [Array.length_toList, hcs]; exact hi), List.getElem?_eq_none (by omega)]
  refine ⟨hl, .inr ⟨g, n, cur, rfl, hg, hb, Nat.le_refl _, hn, hcs, ?_⟩⟩
  rw [hcur, ← hl, List.take_length]
end Go.Proofs.YtgbneeohaboncaaGreatDoor
/-
  The workers that a run begins with, as the project makes them: the first task is with worker 0.
-/
namespace Go.Proofs.YtgbneeohaboncaaGreatDoor
open Go Go.RowKit

theorem infoXW : (Tryz.prog.info? 135).map (fun i => (i.zero, i.size, i.bytes)) = some (some (.agg #[.pointer none, .slice none 0 0, .int .i64 0]), 3, 40) := by kernel_rfl
set_option maxHeartbeats 4000000 in
set_option maxRecDepth 100000 in
theorem newWorkers_calls (n : Nat) (room mode : Int) (t : TaskS) (w : World) (hn2 : 2 ≤ n) (hn5 : n ≤ 5) :
    Calls Tryz.prog 68 #[.agg #[.int .i64 n, .int .i64 room, .int .i64 mode], .agg #[.string t.id, .int .i64 t.kind, .int .i64 t.arg]] w fun e w' => ∃ (part : Nat → Nat) (g : Nat) (xs : List XW), e = .returned (.slice (some ⟨g, 0, none⟩) n n) ∧ (∀ b, part b ≠ 0 → w.heap.size ≤ b ∧ b < w'.heap.size ∧ (part b = 7 ∨ 10 ≤ part b)) ∧
      RowIn (fun b => part b = 7) 135 3 xwEnc w' (.slice (some ⟨g, 0, none⟩) n n) xs ∧ xs.length = n ∧ (∀ i x, xs[i]? = some x → TaskListAt (fun b => part b = 10 + i) w' x.1 room (if i = 0 then [t] else [])) ∧ Below w.heap.size w w' := by
  obtain ⟨i0, hi0, hz0, hz1, hz2⟩ := info_parts infoXW
  obtain ⟨V, hV⟩ : ∃ V, (w.alloc (Obj.cells #[.int .i64 n, .int .i64 room, .int .i64 mode] 39)).alloc (Obj.cells #[.string t.id, .int .i64 t.kind, .int .i64 t.arg] 76) = V := ⟨_, rfl⟩
  have bC : BoxAt V w.heap.size 39 #[.int .i64 n, .int .i64 room, .int .i64 mode] := by rw [← hV]; exact (BoxAt.new w _ _).alloc _
  have bT : BoxAt V (w.heap.size + 1) 76 #[.string t.id, .int .i64 t.kind, .int .i64 t.arg] := by
    rw [← hV]; have := BoxAt.new (w.alloc (Obj.cells #[.int .i64 n, .int .i64 room, .int .i64 mode] 39)) 76 #[.string t.id, .int .i64 t.kind, .int .i64 t.arg]
    rw [World.size_alloc] at this; exact this
  have hbV : Below w.heap.size w V := by rw [← hV]; exact ((Below.refl _ _).alloc (Nat.le_refl _) _).alloc (by simp) _
  have sV : V.heap.size = w.heap.size + 2 := by rw [← hV]; simp
  have c0 := bC.cell (o := 0) rfl
  have HBC := hid_of bC
  have HBT := hid_of bT
  have HBV := hid_of hbV
  clear bC bT hbV
  go_enter Tryz.func68, Tryz.ntmps68
  go_wp2_with (at_make; refine wpList_make_full _ rfl _ _ 122 rfl V.heap.size 135 i0 _ 3 Tryz.underlying122 hi0 hz0 hz1 .i64 .i64 _ _ n rfl rfl (by simp) (by simp) (by rw [hz2]; omega) (by unfold maxLen; omega) (Nat.le_refl _) ?_; intro w1 hown1 hgrow1)
  obtain ⟨cur, hcur, hcn⟩ : ∃ cur, BoxAt w1 V.heap.size 135 cur ∧ cur.size = n * 3 := by
    rcases hown1.2 with ⟨h0, _⟩ | ⟨g', cap', cur, h0, hb, hcur, hnc, hcm, hcs, htk⟩
    · cases h0
    · cases h0
      exact ⟨cur, hcur, hcs⟩
  have hb1 : Below V.heap.size V w1 := (Kept.grown hgrow1 (X := fun _ => False) (fun r e => by cases e)).below (Nat.le_refl _) (fun _ h => h.elim)
  have HB1 := hid_of hb1
  obtain ⟨G, hG⟩ : ∃ G, w.heap.size + 2 = G := ⟨_, rfl⟩
  rw [sV, hG] at hcur
  rw [hG]
  have HCUR := hid_of hcur
  have HCN : Hid (cur.size = n * 3) := hcn
  have sz1 := hcur.lt
  have HC1 : Hid (BoxAt w1 w.heap.size 39 #[.int .i64 n, .int .i64 room, .int .i64 mode]) := HBC.out.below hb1 HBC.out.lt
  have HT1 : Hid (BoxAt w1 (w.heap.size + 1) 76 #[.string t.id, .int .i64 t.kind, .int .i64 t.arg]) := HBT.out.below hb1 HBT.out.lt
  have HBW1 : Hid (Below w.heap.size w w1) := HBV.out.trans (hb1.mono (by omega))
  clear hown1 hgrow1 hcur hb1 hcn c0 hV
  go_loopw [12] (fun iv wr => ∃ (k : Nat) (part : Nat → Nat) (cur : Array Value) (xs : List XW), k ≤ n ∧ iv = .int .i64 k ∧ BoxAt wr G 135 cur ∧ cur.size = n * 3 ∧ xs.length = k ∧ (∀ j x i u, xs[j]? = some x → (xwEnc x)[i]? = some u → cur[j * 3 + i]? = some u) ∧ (∀ b, part b ≠ 0 → G < b ∧ 10 ≤ part b) ∧ (∀ i x, xs[i]? = some x → TaskListAt (fun b => part b = 10 + i) wr x.1 room []) ∧ Kept (· = G) w1 wr) (fun iv _ => n - (intOf iv).toNat)
  case atStart => exact ⟨0, fun _ => 0, cur, [], Nat.zero_le _, rfl, HCUR.out, HCN.out, rfl, (fun j x i u h => by simp at h), (fun b h => absurd rfl h), (fun i x h => by simp at h), Kept.refl _ _⟩
  case round =>
    obtain ⟨k, part, cu, xs, hk, rfl, hbox, hcz, hxl, hxc, hpt, htl, hkw⟩ := hrel
    rename World => wr
    have HBOX := hid_of hbox
    have HCZ : Hid (cu.size = n * 3) := hcz
    have HXL : Hid (xs.length = k) := hxl
    have HXC := hid_of hxc
    have HPT := hid_of hpt
    have HTL := hid_of htl
    have HKW := hid_of hkw
    have szr := hkw.size
    have HCr : Hid (BoxAt wr w.heap.size 39 #[.int .i64 n, .int .i64 room, .int .i64 mode]) := HC1.out.kept hkw (by omega)
    have HTr : Hid (BoxAt wr (w.heap.size + 1) 76 #[.string t.id, .int .i64 t.kind, .int .i64 t.arg]) := HT1.out.kept hkw (by omega)
    have c0 := HCr.out.cell (o := 0) rfl
    have c1 := HCr.out.cell (o := 1) rfl
    clear hbox hcz hxl hxc hpt htl hkw
    by_cases hlt : k < n
    · have j1 : (0 : Int) ≤ (k : Int) := by omega
      have j2 : (k : Int) < (n : Int) := by omega
      have HNW : Hid (∀ U, Below wr.heap.size wr U → Calls Tryz.prog 102 #[.int .i64 room, .slice none 0 0] U fun e w' => ∃ v, e = .returned v ∧ ∃ T, v = .pointer (some ⟨T, 0, none⟩) ∧ TaskListAt (fun b => wr.heap.size ≤ b) w' T room [] ∧ Below wr.heap.size wr w') := fun U hU => by
        refine (tasksNew_calls room (.slice none 0 0) [] U (ListAt.nil _ _ _) (by simp)).mono ?_
        rintro e w' ⟨T, tv, rfl, h1, h2, h3, h4⟩
        have := hU.size
        exact ⟨_, rfl, T, rfl, ⟨tv, h1, by omega, ownsRow_base h3 (Nat.zero_le _), fun g e => by have := (h3.lt g e).1; omega⟩, hU.trans (h4.mono hU.size)⟩
      have HNL : Hid (∀ U, Below wr.heap.size wr U → Calls Tryz.prog 103 #[.int .i64 k, .int .i64 n] U fun e w' => ∃ v, e = .returned v ∧ ∃ g, v = .slice (some ⟨g, 0, none⟩) n n ∧ Below U.heap.size U w' ∧ Below wr.heap.size wr w') := fun U hU => by
        refine (newLinks_calls k n U hn5 hlt).mono ?_
        rintro e w' ⟨g, rfl, h1⟩
        exact ⟨_, rfl, g, rfl, h1, hU.trans (h1.mono hU.size)⟩
      go_upto_region 5 with fail
      go_region_law (first
        | (refine step_call2 (by rfl) 102 _ _ _ (by rfl) (.int .i64 room) (.slice none 0 0) (by rfl) (by rfl) (enters_of Tryz.func102 (by kernel_rfl) rfl) (HNW.out _ (by first | assumption | exact Below.refl _ _ | exact (Below.refl _ _).drew | exact Below.drew (by assumption))) ?_; rintro v8 w8 ⟨T, rfl, ht8, hb8⟩; have hC8 := HCr.out.below hb8 HCr.out.lt; have d0 := hC8.cell (o := 0) rfl; have d1 := hC8.cell (o := 1) rfl)
        | (refine step_call2 (by rfl) 103 _ _ _ (by rfl) (.int .i64 k) (.int .i64 n) (by rfl) (by rfl) (enters_of Tryz.func103 (by kernel_rfl) rfl) (HNL.out _ (by first | assumption | exact Below.refl _ _ | exact (Below.refl _ _).drew | exact Below.drew (by assumption))) ?_; rintro v9 w9 ⟨g9, rfl, hU9, hb9⟩; have hx9 := HBOX.out.below hb9 HBOX.out.lt; obtain ⟨o0, ho0⟩ := get_some (cs := cu) (i := k * 3) (by rw [HCZ.out]; omega); obtain ⟨o1, ho1⟩ := get_some (cs := cu) (i := k * 3 + 1) (by rw [HCZ.out]; omega); obtain ⟨o2, ho2⟩ := get_some (cs := cu) (i := k * 3 + 2) (by rw [HCZ.out]; omega); have y0 := hx9.cell ho0; have y1 := hx9.cell ho1; have y2 := hx9.cell ho2; have z0 := hx9.frozen (k * 3); have z1 := hx9.frozen (k * 3 + 1); have z2 := hx9.frozen (k * 3 + 2); clear ho0 ho1 ho2))
      all_goals
        go_wp2_with fail
        go_roundw
        case rel =>
          obtain ⟨W9, hW9⟩ : ∃ W9, ((w9.setCell ⟨G, k * 3, none⟩ (.pointer (some ⟨T, 0, none⟩))).setCell ⟨G, k * 3 + 1, none⟩ (.slice (some ⟨g9, 0, none⟩) n n)).setCell ⟨G, k * 3 + 2, none⟩ (.int .i64 0) = W9 := ⟨_, rfl⟩
          have hbox9 : BoxAt W9 G 135 (((cu.setIfInBounds (k * 3) (.pointer (some ⟨T, 0, none⟩))).setIfInBounds (k * 3 + 1) (.slice (some ⟨g9, 0, none⟩) n n)).setIfInBounds (k * 3 + 2) (.int .i64 0)) := by rw [← hW9]; exact ((hx9.setAt _ _).setAt _ _).setAt _ _
          have k99 : Kept (· = G) w9 W9 := by rw [← hW9]; exact (((Kept.refl _ _).setCell (.inl (by rfl)) _).setCell (.inl (by rfl)) _).setCell (.inl (by rfl)) _
          have kr9 : Kept (· = G) wr W9 := (Kept.of_below hb9 (X := (· = G)) (fun b h1 h2 => by omega)).andThen k99 (fun b _ h => h)
          have hT9 : TaskListAt (fun b => wr.heap.size ≤ b) w9 T room [] := ht8.kept (Kept.of_below hU9 (X := fun b => w8.heap.size ≤ b) (fun _ _ h => h)) (fun g hg h => ⟨by omega, h⟩)
          have hGr := HBOX.out.lt
          rw [hW9]
          refine ⟨k + 1, fun b => if b < wr.heap.size then part b else 10 + k, _, xs ++ [(T, .slice (some ⟨g9, 0, none⟩) n n, 0)], by omega, by go_num, hbox9, by simp [HCZ.out], by rw [List.length_append, HXL.out]; rfl, fun j x i u hx hu => ?_, fun b hb => ?_, fun i x hx => ?_, HKW.out.trans kr9⟩
          · rcases get_snoc hx with ⟨hj, hx'⟩ | ⟨hj, rfl⟩
            · have h1 := HXC.out j x i u hx' hu
              have hi3 : i < 3 := (List.getElem?_eq_some_iff.1 hu).1
              have hjk : j < k := by have := HXL.out; omega
              rw [Array.getElem?_setIfInBounds_ne (by omega), Array.getElem?_setIfInBounds_ne (by omega), Array.getElem?_setIfInBounds_ne (by omega)]
              exact h1
            · rw [HXL.out] at hj
              subst hj
              have hcz := HCZ.out
              match i, hu with
              | 0, hu => cases hu; rw [show j * 3 + 0 = j * 3 from rfl, Array.getElem?_setIfInBounds_ne (by omega), Array.getElem?_setIfInBounds_ne (by omega), Array.getElem?_setIfInBounds_self_of_lt (by omega)]
              | 1, hu => cases hu; rw [Array.getElem?_setIfInBounds_ne (by omega), Array.getElem?_setIfInBounds_self_of_lt (by simp; omega)]
              | 2, hu => cases hu; rw [Array.getElem?_setIfInBounds_self_of_lt (by simp; omega)]
              | (m + 3), hu => simp [xwEnc] at hu
          · dsimp only at hb ⊢
            by_cases h : b < wr.heap.size
            · rw [if_pos h] at hb ⊢
              exact HPT.out b hb
            · rw [if_neg h]
              exact ⟨by omega, by omega⟩
          · rcases get_snoc hx with ⟨hj, hx'⟩ | ⟨hj, rfl⟩
            · exact (HTL.out i x hx').kept kr9 (fun g hg h => ⟨fun h' => by have := HPT.out g (by omega); omega, (if_pos hg).trans h⟩)
            · rw [HXL.out] at hj
              subst hj
              exact hT9.kept k99 (fun g hg h => ⟨fun h' => by omega, if_neg (by omega)⟩)
        case measure => simp [intOf]; omega
    · obtain rfl : n = k := by omega
      have t0 := HTr.out.cell (o := 0) rfl
      have t1 := HTr.out.cell (o := 1) rfl
      have t2 := HTr.out.cell (o := 2) rfl
      obtain ⟨w4, hw4⟩ : ∃ w4, wr.alloc (Obj.cells #[.string t.id, .int .i64 t.kind, .int .i64 t.arg] 76) = w4 := ⟨_, rfl⟩
      have hb4 : Below wr.heap.size wr w4 := by rw [← hw4]; exact (Below.refl _ _).alloc (Nat.le_refl _) _
      have sz4 : w4.heap.size = wr.heap.size + 1 := by rw [← hw4]; simp
      have hL4 : ListAt 3 taskEnc w4 (.slice (some ⟨wr.heap.size, 0, none⟩) 1 1) [t] := by
        have hb := BoxAt.new wr 76 #[.string t.id, .int .i64 t.kind, .int .i64 t.arg]
        rw [hw4] at hb
        refine ⟨_, _, rfl, fun j x hx => ?_⟩
        cases j with
        | succ j => simp at hx
        | zero =>
          cases hx
          refine ⟨wr.heap.size, 0, rfl, hb.lt, fun i u hi => ?_⟩
          rw [show 0 + 0 * 3 + i = i from by omega]
          match i, hi with
          | 0, hi => cases hi; exact hb.cell (o := 0) rfl
          | 1, hi => cases hi; exact hb.cell (o := 1) rfl
          | 2, hi => cases hi; exact hb.cell (o := 2) rfl
          | (m + 3), hi => simp [taskEnc] at hi
      have HNT := hid_of (tasksNew_calls room (.slice (some ⟨wr.heap.size, 0, none⟩) 1 1) [t] w4 hL4 (by simp))
      have HB4 := hid_of hb4
      clear hL4 hb4
      have hGr := HBOX.out.lt
      go_wp2_with (go_at_call 102; refine HNT.out.mono ?_; rintro e w5 ⟨T, tv, rfl, hT5, hT5l, hrow5, hb5⟩; have hx5 := (HBOX.out.below HB4.out hGr).below hb5 (by omega); obtain ⟨o0, ho0⟩ := get_some (cs := cu) (i := 0) (by rw [HCZ.out]; omega); have y0 := hx5.cell ho0; have z0 := hx5.frozen 0)
      go_ret
      have hbw5 : Below wr.heap.size wr w5 := HB4.out.trans (hb5.mono (by omega))
      have k56 : Kept (· = G) w5 (w5.setCell ⟨G, 0, none⟩ (.pointer (some ⟨T, 0, none⟩))) := (Kept.refl _ _).setCell (.inl (by rfl)) _
      have kr6 : Kept (· = G) wr (w5.setCell ⟨G, 0, none⟩ (.pointer (some ⟨T, 0, none⟩))) := (Kept.of_below hbw5 (X := (· = G)) (fun b h1 h2 => by omega)).andThen k56 (fun b _ h => h)
      have hsz5 := hbw5.size
      obtain ⟨x0, hx0⟩ : ∃ x, xs[0]? = some x := ⟨_, List.getElem?_eq_getElem (by have := HXL.out; omega)⟩
      have hxl0 : 0 < xs.length := (List.getElem?_eq_some_iff.1 hx0).1
      have hT5w := hT5.lt
      have hcells : ∀ j x i u, (xs.set 0 (T, x0.2))[j]? = some x → (xwEnc x)[i]? = some u → (cu.setIfInBounds 0 (.pointer (some ⟨T, 0, none⟩)))[j * 3 + i]? = some u := fun j x i u hx hu => by
        cases j with
        | zero =>
          rw [List.getElem?_set_self hxl0] at hx
          cases hx
          match i, hu with
          | 0, hu => cases hu; rw [Array.getElem?_setIfInBounds_self_of_lt (by rw [HCZ.out]; omega)]
          | (m + 1), hu =>
            rw [Array.getElem?_setIfInBounds_ne (by omega)]
            exact HXC.out 0 x0 (m + 1) u hx0 (by simpa [xwEnc] using hu)
        | succ j =>
          rw [List.getElem?_set_ne (by omega)] at hx
          rw [Array.getElem?_setIfInBounds_ne (by omega)]
          exact HXC.out (j + 1) x i u hx hu
      refine ⟨fun b => if b = G then 7 else if b < wr.heap.size then part b else if b < w5.heap.size then 10 else 0, G, xs.set 0 (T, x0.2), rfl, fun b hb => ?_, ⟨?_, fun g e => ?_⟩, by rw [List.length_set]; exact HXL.out, fun i x hx => ?_, ?_⟩
      · dsimp only at hb ⊢
        by_cases h : b = G
        · rw [if_pos h]; exact ⟨by omega, by simp; omega, .inl rfl⟩
        · rw [if_neg h] at hb ⊢
          by_cases h' : b < wr.heap.size
          · rw [if_pos h'] at hb ⊢
            have := HPT.out b hb
            exact ⟨by omega, by simp; omega, .inr this.2⟩
          · rw [if_neg h'] at hb ⊢
            by_cases h'' : b < w5.heap.size
            · rw [if_pos h'']; exact ⟨by omega, by simp; omega, .inr (by omega)⟩
            · rw [if_neg h''] at hb; exact absurd rfl hb
      · have := row_of_cells (base := 0) (n := n) (sz := 3) (enc := xwEnc) (by omega) (fun _ => rfl) (hx5.setAt 0 (.pointer (some ⟨T, 0, none⟩))) (Nat.zero_le _) (by simp [HCZ.out]) (by rw [List.length_set]; exact HXL.out) (by unfold maxLen; omega) hcells
        rw [List.length_set, HXL.out]
        exact this
      · simp [Value.ownBlock] at e
        exact if_pos e.symm
      · cases i with
        | zero =>
          rw [List.getElem?_set_self hxl0] at hx
          cases hx
          refine ⟨tv, hT5.kept k56 (by omega), ?_, row_kept (ownsRow_base hrow5 (Nat.zero_le _)) k56 (fun g e h => ?_) (Nat.le_refl _), fun g e => ?_⟩
          · exact (if_neg (by omega)).trans ((if_neg (by omega)).trans (if_pos hT5w))
          · have := (hrow5.lt g e).1; omega
          · have := hrow5.lt g e
            exact (if_neg (by omega)).trans ((if_neg (by omega)).trans (if_pos (by omega)))
        | succ i =>
          rw [List.getElem?_set_ne (by omega)] at hx
          rw [if_neg (by omega)]
          exact (HTL.out (i + 1) x hx).kept kr6 (fun g hg h => ⟨fun h' => by have := HPT.out g (by omega); omega, (if_neg (by have := HPT.out g (by omega); omega)).trans ((if_pos hg).trans h)⟩)
      · exact HBW1.out.trans ((HKW.out.trans kr6).below (by have := HBW1.out.size; omega) (fun b h => by omega))
end Go.Proofs.YtgbneeohaboncaaGreatDoor
/-
  glean.New: the errors of a Config and of a program; else a run whose first task is with worker 0, of new memory alone.
-/
namespace Go.Proofs.YtgbneeohaboncaaGreatDoor
open Go Go.RowKit Go.Maps Go.WideMaps

set_option maxHeartbeats 4000000 in
set_option maxRecDepth 100000 in
theorem x_new_bad (a : Option Addr) (cap : Nat) (workers room mode kind arg : Int) (ks : List KindS) (w : World) (hk : KindsAt (fun _ => True) w (.slice a ks.length cap) ks) (hl : ks.length ≤ 9223372036854775806) (hl2 : ∀ k ∈ ks, k.kids.length ≤ 9223372036854775806) (hbad : newE workers room mode ks kind arg ≠ 0) :
    Calls Tryz.prog 25 #[.agg #[.int .i64 workers, .int .i64 room, .int .i64 mode], .agg #[.slice a ks.length cap, .int .i64 kind, .int .i64 arg]] w fun e w' => e = .returned (.tuple #[.pointer none, .int .i64 (newE workers room mode ks kind arg)]) ∧ Below w.heap.size w w' := by
  obtain ⟨V, hV⟩ : ∃ V, (w.alloc (Obj.cells #[.int .i64 workers, .int .i64 room, .int .i64 mode] 39)).alloc (Obj.cells #[.slice a ks.length cap, .int .i64 kind, .int .i64 arg] 42) = V := ⟨_, rfl⟩
  have bC : BoxAt V w.heap.size 39 #[.int .i64 workers, .int .i64 room, .int .i64 mode] := by rw [← hV]; exact (BoxAt.new w _ _).alloc _
  have bP : BoxAt V (w.heap.size + 1) 42 #[.slice a ks.length cap, .int .i64 kind, .int .i64 arg] := by
    rw [← hV]; have := BoxAt.new (w.alloc (Obj.cells #[.int .i64 workers, .int .i64 room, .int .i64 mode] 39)) 42 #[.slice a ks.length cap, .int .i64 kind, .int .i64 arg]
    rw [World.size_alloc] at this; exact this
  have hbV : Below w.heap.size w V := by rw [← hV]; exact ((Below.refl _ _).alloc (Nat.le_refl _) _).alloc (by simp) _
  have c0 := bC.cell (o := 0) rfl
  have c1 := bC.cell (o := 1) rfl
  have c2 := bC.cell (o := 2) rfl
  have HBP := hid_of bP
  have HKV : Hid (KindsAt (fun b => b < w.heap.size) V (.slice a ks.length cap) ks) := (hk.below.kept (Kept.of_below hbV (X := fun b => w.heap.size ≤ b) (fun _ _ h => h)) (fun b h1 h2 => by omega)).mono' (fun _ h => h.2)
  have HBV : Hid (Below w.heap.size w V) := hbV
  have HL2 : Hid (∀ k ∈ ks, k.kids.length ≤ 9223372036854775806) := hl2
  have sV : w.heap.size ≤ V.heap.size := hbV.size
  obtain ⟨cb, hcb⟩ : ∃ cb, cfgB workers room mode = cb := ⟨_, rfl⟩
  have HCF := hid_of (isConfig_calls workers room mode V)
  rw [hcb] at HCF
  obtain ⟨ne, hne⟩ : ∃ ne, newE workers room mode ks kind arg = ne := ⟨_, rfl⟩
  have HNE : Hid (ne = if cb then (unfoldS ks kind arg).1 else 2) := by show _ = _; rw [← hne, ← hcb]; rfl
  rw [hne] at hbad ⊢
  clear bC bP hbV hk hl2 hcb hne
  go_enter Tryz.func25, Tryz.ntmps25
  cases cb with
  | false =>
    obtain rfl : (2 : Int) = ne := HNE.out.symm
    go_wp2_with (go_at_call 66; refine HCF.out.mono ?_; rintro e w1 ⟨rfl, hb1⟩)
    go_ret2
    exact ⟨rfl, HBV.out.trans (hb1.mono sV)⟩
  | true =>
    obtain rfl : (unfoldS ks kind arg).1 = ne := HNE.out.symm
    go_upto_region 3 with (go_at_call 66; refine HCF.out.mono ?_; rintro e w1 ⟨rfl, hb1⟩)
    have hP1 := HBP.out.below hb1 HBP.out.lt
    have p0 := hP1.cell (o := 0) rfl
    have p1 := hP1.cell (o := 1) rfl
    have p2 := hP1.cell (o := 2) rfl
    have HU := hid_of (unfold_calls a cap kind arg ks w1 ((HKV.out.kept (Kept.of_below hb1 (X := fun b => V.heap.size ≤ b) (fun _ _ h => h)) (fun b h1 h2 => by omega)).mono' (fun _ _ => trivial)) hl HL2.out)
    have hb : ((unfoldS ks kind arg).1 != 0) = true := by simpa using hbad
    clear hP1
    go_wp2_with (go_at_call 24; refine HU.out.mono ?_; rintro e w2 ⟨v2, rfl, -, hb2⟩)
    go_ret2
    exact ⟨rfl, (HBV.out.trans (hb1.mono sV)).trans (hb2.mono (by have := hb1.size; omega))⟩
end Go.Proofs.YtgbneeohaboncaaGreatDoor
