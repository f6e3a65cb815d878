/-
  gleanref.Unfold, the document's own answer on a program's tasks, for whatever program lies in memory: the same plain answer as glean.Unfold's.
-/
import Derived.Test.YtfanaanofjhlkaaDoorRefPure
import Derived.Test.YtfanaanofjhlkaaDoorRefProg
import Derived.Test.YtfanaanofjhlkaaDoorStep2
namespace Go.Proofs.YtfanaanofjhlkaaDoor
open Go Go.RowKit

theorem tcells_get (l : List TaskS) : ∀ (j : Nat) (t : TaskS), l[j]? = some t → (tcells l)[j * 3]? = some (.string t.id) ∧ (tcells l)[j * 3 + 1]? = some (.int .i64 t.kind) ∧ (tcells l)[j * 3 + 2]? = some (.int .i64 t.arg) := by
  induction l with
  | nil => intro j d h; simp at h
  | cons e r ih =>
    intro j p h
    unfold tcells
    rw [List.flatMap_cons]
    cases j with
    | zero => simp at h; subst h; exact ⟨rfl, rfl, rfl⟩
    | succ j =>
      obtain ⟨h1, h2, h3⟩ := ih j p (by simpa using h)
      rw [show (j + 1) * 3 = j * 3 + 3 from by omega]
      refine ⟨?_, ?_, ?_⟩
      · rw [List.getElem?_append_right (by simp)]
        have e : j * 3 + 3 - [Value.string e.id, Value.int .i64 e.kind, Value.int .i64 e.arg].length = j * 3 := by simp
        rw [e]; exact h1
      · rw [List.getElem?_append_right (by simp)]
        have e : j * 3 + 3 + 1 - [Value.string e.id, Value.int .i64 e.kind, Value.int .i64 e.arg].length = j * 3 + 1 := by simp
        rw [e]; exact h2
      · rw [List.getElem?_append_right (by simp)]
        have e : j * 3 + 3 + 2 - [Value.string e.id, Value.int .i64 e.kind, Value.int .i64 e.arg].length = j * 3 + 2 := by simp
        rw [e]; exact h3
theorem tcells_append (l m : List TaskS) : tcells (l ++ m) = tcells l ++ tcells m := by simp [tcells]
theorem tcells_length (l : List TaskS) : (tcells l).length = l.length * 3 := by
  induction l with
  | nil => rfl
  | cons x r ih => unfold tcells at ih ⊢; simp [ih]; omega
theorem tcells_one (l : List TaskS) : ∀ u ∈ tcells l, u.oneCell' = true := by
  intro u hu
  obtain ⟨t, _, ht⟩ := List.mem_flatMap.1 hu
  simp at ht
  rcases ht with rfl | rfl | rfl <;> rfl
theorem children_length {ks : List KindS} {kind arg : Int} (hp : progB ks kind arg = true) (t : TaskS) : (children ks t).length ≤ 3 := by
  have key : ∀ (id : ByteArray) (x : Int) (l : List KidS) (i : Nat), (childrenFrom id x i l).length ≤ l.length := by
    intro id x l
    induction l with
    | nil => intro i; simp [childrenFrom]
    | cons c r ih =>
      intro i
      unfold childrenFrom
      have := ih (i + 1)
      split
      · simp; omega
      · simp; omega
  have h1 := key t.id t.arg (kindAt ks t.kind).kids 0
  have h2 := kids_le ks kind arg hp t.kind
  unfold children
  omega

/-- A row's news, whatever slice it is of. -/
theorem row_news {W : World} {base e size n g cap : Nat} {xs : List Value} (h : W.ownsRow base e size (.slice (some ⟨g, 0, none⟩) n cap) n xs) : ∀ j u, xs[j]? = some u → W.cell? ((⟨g, 0, none⟩ : Addr).add j) = some u := fun j u hj => h.cells (g := g) rfl j u hj

set_option maxHeartbeats 4000000 in
set_option maxRecDepth 100000 in
theorem ref_unfold_calls (a : Option Addr) (cap : Nat) (kind arg : Int) (ks : List KindS) (w : World) (hk : KindsAt (fun _ => True) w (.slice a ks.length cap) ks) (hl : ks.length ≤ 9223372036854775806) (hl2 : ∀ k ∈ ks, k.kids.length ≤ 9223372036854775806) :
    Calls Tryd.prog 9 #[.agg #[.slice a ks.length cap, .int .i64 kind, .int .i64 arg]] w fun e w' => ∃ v, e = .returned (.tuple #[v, .int .i64 (unfoldS ks kind arg).1]) ∧
      w'.ownsRow w.heap.size 32 2 v (unfoldS ks kind arg).2.length (taskCells ks (unfoldS ks kind arg).2) ∧ Below w.heap.size w w' := by
  obtain ⟨V, hV⟩ : ∃ V, w.alloc (Obj.cells #[.slice a ks.length cap, .int .i64 kind, .int .i64 arg] 24) = V := ⟨_, rfl⟩
  have bV : BoxAt V w.heap.size 24 #[.slice a ks.length cap, .int .i64 kind, .int .i64 arg] := by rw [← hV]; exact BoxAt.new _ _ _
  have hbV : Below w.heap.size w V := by rw [← hV]; exact (Below.refl _ _).alloc (Nat.le_refl _) _
  have sV : V.heap.size = w.heap.size + 1 := by rw [← hV]; simp
  have kV : KindsAt (fun b => True ∧ b < w.heap.size) V (.slice a ks.length cap) ks := hk.below.kept (Kept.of_below (X := fun b => w.heap.size ≤ b) hbV (fun _ _ h => h)) (fun b h => by omega)
  have z0 := bV.cell (o := 0) rfl
  have z1 := bV.cell (o := 1) rfl
  have z2 := bV.cell (o := 2) rfl
  have HIP := ref_isProgram_calls (.slice a ks.length cap) kind arg ks _ V kV hl hl2
  have HIP' : Hid (Calls Tryd.prog 22 #[.agg #[.slice a ks.length cap, .int .i64 kind, .int .i64 arg]] V fun e w' => e = .returned (.bool (progB ks kind arg)) ∧ Below V.heap.size V w') := HIP
  clear HIP
  go_enter Tryd.func9, Tryd.ntmps9
  by_cases hprog : progB ks kind arg = true
  case neg =>
    have hu : unfoldS ks kind arg = (3, []) := by simp [unfoldS, hprog]
    have hf : progB ks kind arg = false := by simpa using hprog
    rw [hf] at HIP'
    rw [hu]
    clear hf hprog hu
    go_wp2_with fail
    refine HIP'.out.mono ?_
    rintro e w1 ⟨rfl, hb1⟩
    go_wp2_with fail
    go_ret2
    exact ⟨_, rfl, World.ownsRow_nil _ _ _ _, hbV.trans (hb1.mono (by omega))⟩
  rw [hprog] at HIP'
  have hlen5 : ks.length ≤ 5 := by simp [progB, rangeB] at hprog; omega
  have hkr : 0 ≤ kind ∧ kind < ks.length ∧ 0 ≤ arg ∧ arg ≤ 12 := by simp [progB, rangeB, numB] at hprog; omega
  have hGr : Good ks ⟨⟨#[]⟩, kind, arg⟩ := ⟨hkr.1, hkr.2.1, hkr.2.2.1, by simp [ByteArray.size]; omega⟩
  obtain ⟨i0, hi, hz0, hz1, hz2⟩ := info_parts infoTask
  go_wp2_with fail
  refine HIP'.out.mono ?_
  rintro e w1 ⟨rfl, hb1⟩
  have hs1 := hb1.size
  have b1 := bV.below hb1 bV.lt
  have p1 := b1.cell (o := 1) rfl
  have p2 := b1.cell (o := 2) rfl
  have hbw1 : Below w.heap.size w w1 := hbV.trans (hb1.mono (by omega))
  have k1 : KindsAt (fun b => True ∧ b < w.heap.size) w1 (.slice a ks.length cap) ks := kV.kept (Kept.of_below (X := fun b => V.heap.size ≤ b) hb1 (fun _ _ h => h)) (fun b h => by omega)
  clear hV HIP' kV z0 z1 z2
  go_wp2_with fail
  go_loopw [5, 6, 7] (fun lv tv i wr => ∃ (P Q : List TaskS), i = .int .i64 P.length ∧ P.length ≤ 200 ∧ (P ++ Q).length ≤ 1 + 3 * P.length ∧ Queue ks ⟨⟨#[]⟩, kind, arg⟩ P Q ∧ wr.ownsRow w1.heap.size 53 3 tv (P ++ Q).length (tcells (P ++ Q)) ∧ wr.ownsRow w1.heap.size 32 2 lv (sortedIn ks P).length (pairCells (sortedIn ks P)) ∧ Below w1.heap.size w1 wr) (fun _ _ i _ => 201 - (intOf i).toNat)
  case atStart =>
    refine ⟨[], [⟨⟨#[]⟩, kind, arg⟩], rfl, by simp, by simp, Queue.start hGr hkr.2.2.2, ?_, World.ownsRow_nil _ _ _ _, (Below.refl _ _).alloc (Nat.le_refl _) _⟩
    exact row_new _ w1.heap.size w1.heap.size 53 3 1 _ _ rfl (Nat.le_refl _) rfl rfl (by unfold maxLen; omega)
  case round =>
    obtain ⟨P, Q, rfl, hP, hPQ, hQ, htv, hlv, hbr⟩ := hrel
    rename World => Wo
    have hszo := hbr.size
    have HQ : Hid (Queue ks ⟨⟨#[]⟩, kind, arg⟩ P Q) := hQ
    have HTV : Hid (Wo.ownsRow w1.heap.size 53 3 u6 (P ++ Q).length (tcells (P ++ Q))) := htv
    have HLV : Hid (Wo.ownsRow w1.heap.size 32 2 u5 (sortedIn ks P).length (pairCells (sortedIn ks P))) := hlv
    obtain ⟨ta, tcap, hte, htc⟩ := row_slice htv
    have hsl := sortedIn_length ks P
    have b2 := b1.below hbr b1.lt
    have lb := b1.lt
    have q0 := b2.cell (o := 0) rfl
    have q1 := b2.cell (o := 1) rfl
    have q2 := b2.cell (o := 2) rfl
    have hbw : Below w.heap.size w Wo := hbw1.trans (hbr.mono hbw1.size)
    have kW : KindsAt (fun b => True ∧ b < w.heap.size) Wo (.slice a ks.length cap) ks := k1.kept (Kept.of_below (X := fun b => w1.heap.size ≤ b) hbr (fun _ _ h => h)) (fun b h => by have := hbw1.size; omega)
    clear htv hlv hQ p1 p2
    cases Q with
    | nil =>
      have hperm := HQ.out.end
      have hsa := sortedIn_all hprog (show P.Perm (allTasks ks kind arg) from hperm)
      have hll : (allTasks ks kind arg).length ≤ 200 := by
        have : P.length = (allTasks ks kind arg).length := hperm.length_eq
        omega
      have hu : unfoldS ks kind arg = (0, allTasks ks kind arg) := by simp [unfoldS, hprog, hll]
      rw [List.append_nil] at hte
      subst hte
      have HU : Hid (unfoldS ks kind arg = (0, allTasks ks kind arg)) := hu
      have HRES : Hid (Wo.ownsRow w.heap.size 32 2 u5 (allTasks ks kind arg).length (taskCells ks (allTasks ks kind arg))) := by
        show Wo.ownsRow _ _ _ _ _ _
        rw [taskCells_pairs, ← hsa, ← pairsOf_length ks, ← hsa]
        exact row_kept HLV.out (Kept.refl (fun _ => False) _) (fun _ _ h => h) (by omega)
      clear hsa hu hll hperm
      go_wp2_with fail
      go_ret2
      rw [HU.out]
      exact ⟨_, rfl, HRES.out, hbw⟩
    | cons t Q =>
      have hmore := HQ.out.more
      have hPlt : P.length < (P ++ t :: Q).length := by simp
      by_cases h200 : P.length < 200
      case neg =>
        have hbig : ¬ (allTasks ks kind arg).length ≤ 200 := by
          have : P.length + 1 ≤ (allTasks ks kind arg).length := hmore
          omega
        have hu : unfoldS ks kind arg = (4, []) := by simp [unfoldS, hprog, hbig]
        subst hte
        have HU : Hid (unfoldS ks kind arg = (4, [])) := hu
        clear hu hbig hmore
        go_wp2_with fail
        go_ret2
        rw [HU.out]
        exact ⟨_, rfl, World.ownsRow_nil _ _ _ _, hbw⟩
      obtain ⟨hG, h12⟩ := HQ.out.2 t (by simp)
      have hcl := children_length hprog t
      have hgt : (P ++ t :: Q)[P.length]? = some t := by simp
      obtain ⟨c0, c1, c2⟩ := tcells_get _ _ _ hgt
      obtain ⟨g, rfl, hg1, hg2, e0⟩ := htc _ _ c0
      obtain ⟨g', ee, _, _, e1⟩ := htc _ _ c1
      cases ee
      obtain ⟨g', ee, _, _, e2⟩ := htc _ _ c2
      cases ee
      subst hte
      have j1 : (0 : Int) ≤ (P.length : Int) := by omega
      have j2 : (P.length : Int) < ((P ++ t :: Q).length : Int) := by omega
      obtain ⟨N, hN⟩ : ∃ N, (P ++ t :: Q).length = N := ⟨_, rfl⟩
      have HNeq : Hid ((P ++ t :: Q).length = N) := hN
      rw [hN] at j2 hPlt hPQ HTV ⊢
      clear hN
      have hkU : ∀ U, Below Wo.heap.size Wo U → KindsAt (fun b => True ∧ b < w.heap.size) U (.slice a ks.length cap) ks := fun U hU => kW.kept (Kept.of_below (X := fun b => Wo.heap.size ≤ b) hU (fun _ _ h => h)) (fun b h => by have := hbw.size; omega)
      have HVAL : Hid (∀ U, Below Wo.heap.size Wo U → Calls Tryd.prog 24 #[.agg #[.slice a ks.length cap, .int .i64 kind, .int .i64 arg], .agg #[.string t.id, .int .i64 t.kind, .int .i64 t.arg]] U fun e w' => ∃ v, e = .returned v ∧ (v = .agg #[.string t.id, .int .i64 (valueOf ks t)] ∧ Below Wo.heap.size Wo w')) := fun U hU =>
        (ref_value_calls _ kind arg ks t _ U (hkU U hU) hprog hG.1 hG.2.1 hG.2.2.1 h12).mono fun e w' h => ⟨_, h.1, rfl, hU.trans (h.2.mono hU.size)⟩
      have HPUT : Hid (∀ U, Below Wo.heap.size Wo U → Calls Tryd.prog 23 #[u5, .agg #[.string t.id, .int .i64 (valueOf ks t)]] U fun e w' => ∃ v, e = .returned v ∧ (w'.ownsRow w1.heap.size 32 2 v (sortedIn ks (P ++ [t])).length (pairCells (sortedIn ks (P ++ [t]))) ∧ Below Wo.heap.size Wo w')) := fun U hU => by
        have hrowU := row_below HLV.out hU (fun g' hg' => (HLV.out.lt g' hg').2)
        refine (put_calls u5 (sortedIn ks P) (t.id, valueOf ks t) U (pairs_of_row hrowU).2 (by omega)).mono ?_
        rintro e w' ⟨v, rfl, h1, h2⟩
        rw [sortedIn_snoc]
        exact ⟨v, rfl, row_kept h1 (Kept.refl (fun _ => False) _) (fun _ _ h => h) (by have := hU.size; have := hbw.size; omega), hU.trans (h2.mono hU.size)⟩
      have HCHI : Hid (∀ U, Below Wo.heap.size Wo U → Calls Tryd.prog 25 #[.agg #[.slice a ks.length cap, .int .i64 kind, .int .i64 arg], .agg #[.string t.id, .int .i64 t.kind, .int .i64 t.arg]] U fun e w' => ∃ v, e = .returned v ∧ (w'.ownsRow Wo.heap.size 53 3 v (children ks t).length (tcells (children ks t)) ∧ (children ks t = [] → v = .slice none 0 0) ∧ Below U.heap.size U w' ∧ Below Wo.heap.size Wo w')) := fun U hU => by
        refine (ref_children_calls _ a cap kind arg ks t U (hkU U hU) hprog hG).mono ?_
        rintro e w' ⟨v, rfl, h1, h2, h3⟩
        exact ⟨v, rfl, row_kept h1 (Kept.refl (fun _ => False) _) (fun _ _ h => h) hU.size, h2, h3, hU.trans (h3.mono hU.size)⟩
      clear kW hkU
      go_upto_region 11 with fail
      go_cut [5] (fun lv wx => wx.ownsRow w1.heap.size 32 2 lv (sortedIn ks (P ++ [t])).length (pairCells (sortedIn ks (P ++ [t]))) ∧ Below Wo.heap.size Wo wx)
      case first =>
        go_region_law (first
          | (refine step_call2 (by rfl) 24 _ _ _ (by rfl) (.agg #[.slice a ks.length cap, .int .i64 kind, .int .i64 arg]) (.agg #[.string t.id, .int .i64 t.kind, .int .i64 t.arg]) (by rfl) (by rfl) (enters_of Tryd.func24 (by kernel_rfl) rfl) (HVAL.out _ (by first | assumption | exact Below.refl _ _ | exact (Below.refl _ _).drew | exact Below.drew (by assumption))) ?_; rintro v9 w9 ⟨rfl, hb9⟩)
          | (refine step_call2 (by rfl) 23 _ _ _ (by rfl) u5 (.agg #[.string t.id, .int .i64 (valueOf ks t)]) (by rfl) (by rfl) (enters_of Tryd.func23 (by kernel_rfl) rfl) (HPUT.out _ (by first | assumption | exact Below.refl _ _ | exact (Below.refl _ _).drew | exact Below.drew (by assumption))) ?_; rintro v8 w8 ⟨hrow8, hb8⟩))
        all_goals
          go_wp2_with fail
          go_meet
          case rel => exact ⟨hrow8, hb8⟩
      case rest =>
      obtain ⟨hlv', hbU⟩ := hcut
      obtain ⟨U, rfl⟩ : ∃ U, U = wc := ⟨_, rfl⟩
      have HLV' : Hid (U.ownsRow w1.heap.size 32 2 u5 (sortedIn ks (P ++ [t])).length (pairCells (sortedIn ks (P ++ [t])))) := hlv'
      have hszU := hbU.size
      have b3 := b2.below hbU b2.lt
      have lb2 := b2.lt
      clear q0 q1 q2 hlv'
      have q0 := b3.cell (o := 0) rfl
      have q1 := b3.cell (o := 1) rfl
      have q2 := b3.cell (o := 2) rfl
      have f0 := (hbU.cell (p := ⟨g, _, none⟩) hg2).trans e0
      have f1 := (hbU.cell (p := ⟨g, _, none⟩) hg2).trans e1
      have f2 := (hbU.cell (p := ⟨g, _, none⟩) hg2).trans e2
      clear e0 e1 e2
      have HTU : Hid (∀ Y, Below U.heap.size U Y → Y.ownsRow w1.heap.size 53 3 (.slice (some ⟨g, 0, none⟩) N tcap) N (tcells (P ++ t :: Q))) := fun Y hY => row_below (row_below HTV.out hbU (fun g' hg' => (HTV.out.lt g' hg').2)) hY (fun g' hg' => Nat.lt_of_lt_of_le (HTV.out.lt g' hg').2 hszU)
      go_upto_region 12 with fail
      have hPQ' : (P ++ [t] ++ (Q ++ children ks t)) = (P ++ t :: Q) ++ children ks t := by simp
      have HPQ : Hid (P ++ [t] ++ (Q ++ children ks t) = (P ++ t :: Q) ++ children ks t) := hPQ'
      have HNN : Hid ((P ++ t :: Q).length = N) := HNeq
      clear hPQ'
      by_cases hch : children ks t = []
      · have HCE : Hid (children ks t = []) := hch
        clear hch
        go_region_law (first
          | (refine step_call2 (by rfl) 25 _ _ _ (by rfl) (.agg #[.slice a ks.length cap, .int .i64 kind, .int .i64 arg]) (.agg #[.string t.id, .int .i64 t.kind, .int .i64 t.arg]) (by rfl) (by rfl) (enters_of Tryd.func25 (by kernel_rfl) rfl) (HCHI.out _ (by first | exact hbU | exact hbU.drew)) ?_; rintro v9 w9 ⟨hr9, hn9, hU9, hb9⟩; obtain rfl := hn9 HCE.out; have hbU9 : Below U.heap.size U w9 := by first | exact hU9 | exact (Below.refl _ U).drew.trans hU9)
          | (refine step_append_none (by rfl) _ _ _ (by rfl) w1.heap.size 53 i0 3 Tryd.underlying35 hi (.slice (some ⟨g, 0, none⟩) N tcap) N (tcells (P ++ t :: Q)) (by rfl) (HTU.out _ (by first | assumption | exact Below.drew (by assumption))) (by rfl) ?_))
        all_goals
          go_wp2_with fail
          go_roundw
          case rel =>
            refine ⟨P ++ [t], Q ++ children ks t, by simp, by simp; omega, ?_, Queue.step hprog HQ.out, ?_, row_below HLV'.out hbU9 (fun g' hg' => (HLV'.out.lt g' hg').2), (hbr.trans (hbU.mono hszo)).trans (hbU9.mono (by omega))⟩
            · rw [HPQ.out, HCE.out, List.append_nil, HNN.out]; simp; omega
            · rw [HPQ.out, HCE.out, List.append_nil, HNN.out]; exact HTU.out _ hbU9
          case measure => simp [intOf]; omega
      · obtain ⟨m, hm⟩ : ∃ m, (children ks t).length = m := ⟨_, rfl⟩
        have hm0 : 0 < m := by
          rw [← hm]; exact List.length_pos_iff.2 hch
        have HM : Hid ((children ks t).length = m) := hm
        rw [hm] at hcl
        have hN4 : N ≤ 700 := by omega
        clear hm hch
        go_region_law (first
          | (refine step_call2 (by rfl) 25 _ _ _ (by rfl) (.agg #[.slice a ks.length cap, .int .i64 kind, .int .i64 arg]) (.agg #[.string t.id, .int .i64 t.kind, .int .i64 t.arg]) (by rfl) (by rfl) (enters_of Tryd.func25 (by kernel_rfl) rfl) (HCHI.out _ (by first | exact hbU | exact hbU.drew)) ?_; rintro v9 w9 ⟨hr9, hn9, hU9, hb9⟩; rw [HM.out] at hr9; obtain ⟨g9, c9, rfl, hg91, hg92⟩ := World.ownsRow.form hr9 hm0; have hbU9 : Below U.heap.size U w9 := by first | exact hU9 | exact (Below.refl _ U).drew.trans hU9)
          | (refine step_append_lies _ (by rfl) _ _ _ (by rfl) w1.heap.size 53 i0 _ 3 32 Tryd.underlying35 hi hz0 hz1 hz2 rfl (by omega) (.slice (some ⟨g, 0, none⟩) N tcap) N (tcells (P ++ t :: Q)) (by rfl) (HTU.out _ (by first | assumption | exact Below.drew (by assumption))) ⟨g9, 0, none⟩ m c9 (tcells (children ks t)) (by rfl) (by rw [tcells_length, HM.out]) (row_news hr9) (tcells_one _) hm0 (by unfold maxLen; omega) (by omega) (by have := hbU9.size; have := hbw.size; simp; omega) w9.heap.size (by simp) ?_; intro g8 cp8 w8 hown8 hgrow8 hat8 hlt8))
        all_goals
          go_wp2_with fail
          go_roundw
          case rel =>
            have hrw : ∀ q, Value.ownBlock (.slice (some ⟨g, 0, none⟩) N tcap) = some q → w1.heap.size ≤ q := fun q e => (HTV.out.lt q e).1
            refine ⟨P ++ [t], Q ++ children ks t, by simp, by simp; omega, ?_, Queue.step hprog HQ.out, ?_, ?_, ?_⟩
            · rw [HPQ.out, List.length_append, HNN.out, HM.out]; simp; omega
            · rw [HPQ.out, List.length_append, HNN.out, HM.out, tcells_append]; exact hown8
            · have hL9 : w9.ownsRow w1.heap.size 32 2 u5 (sortedIn ks (P ++ [t])).length (pairCells (sortedIn ks (P ++ [t]))) := row_below HLV'.out hbU9 (fun g' hg' => (HLV'.out.lt g' hg').2)
              have hT9 := HTU.out _ hbU9
              have hk9 : Kept (fun b => Value.ownBlock (.slice (some ⟨g, 0, none⟩) N tcap) = some b) w9 w8 := by
                have := Kept.grown hgrow8 (X := fun b => Value.ownBlock (.slice (some ⟨g, 0, none⟩) N tcap) = some b) (fun r e => e)
                exact ⟨this.os, this.tape, this.output, this.size, this.block⟩
              refine row_kept hL9 hk9 (fun g' hg' hx => ?_) (Nat.le_refl _)
              obtain ⟨cs, hcs⟩ := row_obj hL9 hg'
              obtain ⟨cs2, hcs2⟩ := row_obj hT9 hx
              rw [hcs] at hcs2
              simp at hcs2
            · have hb9' : Below w1.heap.size w1 w9 := (hbr.trans (hbU.mono hszo)).trans (hbU9.mono (by omega))
              have := hb9'.grown hgrow8 (by have := hb9'.size; omega) hrw
              exact this
          case measure => simp [intOf]; omega
end Go.Proofs.YtfanaanofjhlkaaDoor
