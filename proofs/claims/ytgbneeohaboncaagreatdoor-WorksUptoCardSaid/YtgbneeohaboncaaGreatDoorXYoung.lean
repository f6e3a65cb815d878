/-
  Worker 0 does its youngest task.
-/
import Derived.Test.YtgbneeohaboncaaGreatDoorXReplace
namespace Go.Proofs.YtgbneeohaboncaaGreatDoor
open Go Go.RowKit Go.Maps Go.WideMaps

set_option maxHeartbeats 1000000 in
set_option maxRecDepth 100000 in
theorem bring_calls (B M b : Nat) (D : DataW Unit) (cells : Array Value) (id : ByteArray) (v : Int) (w : World) (hB : BoxAt w B 127 cells) (h5 : cells[5]? = some (.map (some M))) (hm : MapIs w M D) (hn : Maps.size D < 1000000) (hid : id.size ≤ 1000000) (hv : (Lit.int .i64 v).wf = true)
    (c0 : w.cell? ⟨b, 0, none⟩ = some (.string id)) (c1 : w.cell? ⟨b, 1, none⟩ = some (.int .i64 v)) (hb : b < w.heap.size) :
    Calls Tryz.prog 116 #[.pointer (some ⟨B, 0, none⟩), .int .i64 0, .slice (some ⟨b, 0, none⟩) 1 1] w fun e w' => (∃ u, e = .returned u) ∧ MapIs w' M (D.put (keyL id) (elemD v)) ∧ Kept (· = M) w w' := by
  have HK := hid_of (keep_calls M b 0 D id v w hm hn hid hv c0 c1 hb)
  have b5 := hB.cell (o := 5) h5
  clear hB hm
  go_enter Tryz.func116, Tryz.ntmps116
  go_wp2_with (go_at_call 63; refine HK.out.mono ?_; rintro e w1 ⟨⟨u, rfl⟩, hm1, hk1⟩)
  refine bodyPost_ret (results_none rfl _ _ _) rfl ?_
  exact ⟨⟨_, rfl⟩, hm1, hk1⟩
/-- What comes of a run whose worker 0 did its youngest task. -/
def doneS (s : RunS) (x : WorkerS) (L : List TaskS) (t : TaskS) : RunS × Int :=
  if s.room < (L.length : Int) + ((children s.ks t).length : Int) then ({ s with over := true }, 6) else ({ s with W := s.W.set 0 { x with tasks := L ++ children s.ks t }, values := putS s.values (t.id, valueOf s.ks t) }, 0)
set_option maxHeartbeats 4000000 in
set_option maxRecDepth 100000 in
theorem doYoungest1_calls (F : Nat → Prop) (B Br Bw : Nat) (s : RunS) (x : WorkerS) (L : List TaskS) (t : TaskS) (w : World) (hx : XOK F w B s) (hf : Fits s) (hk : s.W[0]? = some x) (hxt : x.tasks = L ++ [t]) (hv : s.values.length ≤ 900000) (hh : HeldAt w Br Bw B 0) (hF : ¬ F Br ∧ ¬ F Bw) :
    Calls Tryz.prog 112 #[.pointer (some ⟨Br, 0, none⟩), .pointer (some ⟨Bw, 0, none⟩)] w fun e w' => e = .returned (.int .i64 (doneS s x L t).2) ∧ XOK (fun b => F b ∨ w.heap.size ≤ b) w' B (doneS s x L t).1 ∧ Kept F w w' := by
  have hgd := hf.good x (List.mem_of_getElem? hk) t (by rw [hxt]; simp)
  have hGd : Good s.ks t := hgd.1
  have h12 : t.arg ≤ 12 := hgd.2
  have hprog := hf.prog
  have hL20 : L.length ≤ 19 := by
    have h1 := hf.few x (List.mem_of_getElem? hk)
    have := hf.rmax
    rw [hxt] at h1
    simp at h1
    omega
  have hch3 : (children s.ks t).length ≤ 3 := children_length hprog t
  obtain ⟨part, kv, g, c, M, T, D, xs, y, hpF, hb, hpB, hks, hrow, hxl, htl, hm, hpM, hDs, hy, hyT, ht, hc, hkl⟩ := x_worker hx hk
  rw [hxt] at ht
  obtain ⟨ka, kc, hkf, -⟩ := id hks
  subst hkf
  have b3 : w.cell? ⟨B, 3, none⟩ = some (.slice (some ⟨g, 0, none⟩) xs.length c) := hb.cell (o := 3) rfl
  have r0 := hh.1.cell (o := 0) rfl
  have i0 := hh.2.cell (o := 0) rfl
  have hc' : w.cell? ⟨g, 0, none⟩ = some (.pointer (some ⟨T, 0, none⟩)) := by simpa using hc
  have j2 : (0 : Int) < (xs.length : Int) := by omega
  have j3 : 0 < xs.length := hkl
  obtain ⟨res, hres⟩ : ∃ res, doneS s x L t = res := ⟨_, rfl⟩
  have HRES := hid_of hres
  rw [hres]
  have HB := hid_of hb
  have HKS := hid_of hks
  have HROW := hid_of hrow
  have HTL := hid_of htl
  have HM := hid_of hm
  have HT := hid_of ht
  have HH := hid_of hh
  have HXL : Hid (xs.length = s.W.length) := hxl
  have HPF := hid_of hpF
  have HPB : Hid (part B = 1) := hpB
  have HPM : Hid (part M = 3) := hpM
  have HY : Hid (xs[0]? = some y) := hy
  have HYT : Hid (y.1 = T) := hyT
  have HXT : Hid (x.tasks = L ++ [t]) := hxt
  have HKX : Hid (s.W[0]? = some x) := hk
  have HY0 : Hid (∀ U, Below w.heap.size w U → Calls Tryz.prog 113 #[.pointer (some ⟨T, 0, none⟩)] U fun e w' => e = .returned (.agg #[.string t.id, .int .i64 t.kind, .int .i64 t.arg]) ∧ Below w.heap.size w w') := fun U hU => by
    refine (youngest_calls (fun b => part b = 10 + 0) T s.room L t U (ht.kept (Kept.of_below hU (X := fun b => w.heap.size ≤ b) (fun _ _ h => h)) (fun g hg h => ⟨by omega, h⟩)) (by omega)).mono ?_
    rintro e w' ⟨rfl, h1⟩
    exact ⟨rfl, hU.trans (h1.mono hU.size)⟩
  clear hx hb hks hrow htl hm ht hh hxl hpF hpB hpM hy hyT hxt hk hres hgd hc
  go_enter Tryz.func112, Tryz.ntmps112
  go_upto_region 1 with fail
  go_quiet (fail)
  go_upto_region 3 with (go_at_call 113; refine (HY0.out _ (below_drewN (Below.refl _ _) _)).mono ?_; rintro e w1 ⟨rfl, hb1⟩)
  obtain ⟨w2, hw2⟩ : ∃ w2, w1.alloc (Obj.cells #[.string t.id, .int .i64 t.kind, .int .i64 t.arg] 76) = w2 := ⟨_, rfl⟩
  have s1 := hb1.size
  have hb2 : Below w.heap.size w w2 := by rw [← hw2]; exact hb1.alloc s1 _
  have HT2 : Hid (BoxAt w2 w1.heap.size 76 #[.string t.id, .int .i64 t.kind, .int .i64 t.arg]) := by rw [← hw2]; exact BoxAt.new w1 _ _
  rw [hw2]
  clear hw2 hb1 b3 r0 i0 hc'
  have HB2 := hid_of hb2
  have s2 := hb2.size
  have HR2 := hid_of (HB.out.below hb2 HB.out.lt)
  have HH2 := hid_of (show HeldAt w2 Br Bw B 0 from ⟨HH.out.1.below hb2 HH.out.1.lt, HH.out.2.below hb2 HH.out.2.lt⟩)
  have hbl := HB.out.lt
  have hrl := HH.out.1.lt
  have r0 := HH2.out.1.cell (o := 0) rfl
  have b0 : w2.cell? ⟨B, 0, none⟩ = some (.slice ka s.ks.length kc) := HR2.out.cell (o := 0) rfl
  have b1 : w2.cell? ⟨B, 1, none⟩ = some (.int .i64 s.kind) := HR2.out.cell (o := 1) rfl
  have b2 : w2.cell? ⟨B, 2, none⟩ = some (.int .i64 s.arg) := HR2.out.cell (o := 2) rfl
  have x0 := HT2.out.cell (o := 0) rfl
  have x1 := HT2.out.cell (o := 1) rfl
  have x2 := HT2.out.cell (o := 2) rfl
  have HKU : Hid (∀ U, Below w.heap.size w U → KindsAt (fun b => part b = 6 ∧ b < w.heap.size) U (.slice ka s.ks.length kc) s.ks) := fun U hU => HKS.out.below.kept (Kept.of_below (X := fun b => w.heap.size ≤ b) hU (fun _ _ h => h)) (fun b h => by omega)
  have HCH : Hid (∀ U, Below w2.heap.size w2 U → Calls Tryz.prog 115 #[.agg #[.slice ka s.ks.length kc, .int .i64 s.kind, .int .i64 s.arg], .agg #[.string t.id, .int .i64 t.kind, .int .i64 t.arg]] U fun e w' => ∃ v, e = .returned v ∧ ∃ Bp Bt, v = .func (.func 126) #[] #[.pointer (some ⟨Bp, 0, none⟩), .pointer (some ⟨Bt, 0, none⟩)] ∧ BoxAt w' Bp 42 #[.slice ka s.ks.length kc, .int .i64 s.kind, .int .i64 s.arg] ∧ BoxAt w' Bt 76 #[.string t.id, .int .i64 t.kind, .int .i64 t.arg] ∧ w2.heap.size ≤ Bp ∧ w2.heap.size ≤ Bt ∧ Below w2.heap.size w2 w') := fun U hU => by
    refine ((callsIn_wide (n := 5)).1 (children_in Fence.wide 5 trivial rfl ka s.ks.length kc s.kind s.arg t.id t.kind t.arg U)).mono ?_
    rintro e w' ⟨rfl, rfl⟩
    have hz := hU.size
    refine ⟨_, rfl, U.heap.size, U.heap.size + 1, rfl, (BoxAt.new U _ _).alloc _, boxAt_at _ _ _ _ (by simp), hz, by omega, (hU.alloc hU.size _).alloc (by simp; omega) _⟩
  have HRP : Hid (∀ U Bp Bt, Below w2.heap.size w2 U → BoxAt U Bp 42 #[.slice ka s.ks.length kc, .int .i64 s.kind, .int .i64 s.arg] → BoxAt U Bt 76 #[.string t.id, .int .i64 t.kind, .int .i64 t.arg] → Calls Tryz.prog 114 #[.pointer (some ⟨T, 0, none⟩), .func (.func 126) #[] #[.pointer (some ⟨Bp, 0, none⟩), .pointer (some ⟨Bt, 0, none⟩)]] U fun e w' => ∃ v, e = .returned v ∧ v = .bool (!decide (s.room < (L.length : Int) + (children s.ks t).length)) ∧ Kept (fun b => part b = 10 ∧ b < w.heap.size) w2 w' ∧ (if s.room < (L.length : Int) + (children s.ks t).length then Below w2.heap.size w2 w' else TaskListAt (fun b => (part b = 10 ∧ b < w.heap.size) ∨ w2.heap.size ≤ b) w' T s.room (L ++ children s.ks t))) := fun U Bp Bt hU hBp hBt => by
    have hwU : Below w.heap.size w U := HB2.out.trans (hU.mono s2)
    have htU : TaskListAt (fun b => part b = 10 ∧ b < w.heap.size) U T s.room (L ++ [t]) := HT.out.kept (Kept.of_below hwU (X := fun b => w.heap.size ≤ b) (fun _ _ h => h)) (fun g hg h => ⟨by omega, by simpa using h, hg⟩)
    refine (replace_calls _ T s.room L (children s.ks t) t 126 #[.pointer (some ⟨Bp, 0, none⟩), .pointer (some ⟨Bt, 0, none⟩)] U htU (by omega) (by omega) (enters_of Tryz.func126 (by kernel_rfl) rfl) (fun n X U' W hU' hW hX => ?_)).mono ?_
    · have hbUW : Below U.heap.size U W := hU'.trans (hW.mono hU'.size)
      have hbp := hBp.lt
      have hbt := hBt.lt
      have hz := hU'.size
      have hwz := hwU.size
      exact children1_seqY n Bp Bt X (fun b => part b = 6 ∧ b < w.heap.size) ka kc s.kind s.arg s.ks t (children s.ks t) rfl W (hBp.below hbUW hbp) (hBt.below hbUW hbt) (HKU.out W (hwU.trans (hbUW.mono hwz))) (fun b h h' => by have := hX b h'; omega) (fun h' => by have := hX _ h'; omega) hprog hGd.1 hGd.2.1 hGd.2.2.1 h12 (by have := hGd.2.2.2; have := hGd.2.2.1; omega)
    · rintro e w' ⟨rfl, h1, h2⟩
      have hz := hU.size
      refine ⟨_, rfl, rfl, (Kept.of_below hU (X := fun b => part b = 10 ∧ b < w.heap.size) (fun b h1 h2 => by omega)).trans h1, ?_⟩
      split
      · rename_i hlt; rw [if_pos hlt] at h2; exact hU.trans (h2.mono hz)
      · rename_i hlt; rw [if_neg hlt] at h2; exact h2.kept (Kept.refl (fun _ => False) _) (fun g _ h => ⟨fun h => h, by omega⟩)
  obtain ⟨n, hn⟩ : ∃ n, (children s.ks t).length = n := ⟨_, rfl⟩
  have HN : Hid ((children s.ks t).length = n) := hn
  rw [hn] at HRP hch3
  clear hn hb2
  go_cut [23] (fun bv wx => bv = .bool (decide (s.room < (L.length : Int) + n)) ∧ Kept (fun b => part b = 10 ∧ b < w.heap.size) w2 wx ∧ (if s.room < (L.length : Int) + n then Below w2.heap.size w2 wx else TaskListAt (fun b => (part b = 10 ∧ b < w.heap.size) ∨ w2.heap.size ≤ b) wx T s.room (L ++ children s.ks t)))
  case first =>
    go_region_law (first
      | (refine step_call2 (by rfl) 115 _ _ _ (by rfl) (.agg #[.slice ka s.ks.length kc, .int .i64 s.kind, .int .i64 s.arg]) (.agg #[.string t.id, .int .i64 t.kind, .int .i64 t.arg]) (by rfl) (by rfl) (enters_of Tryz.func115 (by kernel_rfl) rfl) (HCH.out _ (by first | assumption | exact Below.refl _ _ | exact (Below.refl _ _).drew | exact Below.drew (by assumption))) ?_; rintro v3 w3 ⟨Bp, Bt, rfl, hBp, hBt, hpl, htl', hb3⟩)
      | (refine step_call2 (by rfl) 114 _ _ _ (by rfl) (.pointer (some ⟨T, 0, none⟩)) (.func (.func 126) #[] #[.pointer (some ⟨Bp, 0, none⟩), .pointer (some ⟨Bt, 0, none⟩)]) (by rfl) (by rfl) (enters_of Tryz.func114 (by kernel_rfl) rfl) (HRP.out _ Bp Bt (by first | assumption | exact Below.drew (by assumption)) (by first | assumption | exact hBp) (by first | assumption | exact hBt)) ?_; rintro v4 w4 ⟨rfl, hk4, hif4⟩))
    all_goals
      go_wp2_with fail
      go_meet
      case rel => exact ⟨by simp, by first | exact hk4 | exact hk4.drew, by first | exact hif4 | (split <;> simp_all)⟩
  case rest =>
    obtain ⟨rfl, hk4, hif4⟩ := hcut
    rename World => w4
    have HK4 := hid_of hk4
    have s4 := hk4.size
    have hTl : T < w.heap.size := by obtain ⟨_, h, _⟩ := HT.out; exact h.lt
    have npB : ¬ (part B = 10 ∧ B < w.heap.size) := fun h => by have := HPB.out; omega
    have hpr : part Br = 0 := by
      rcases Nat.eq_zero_or_pos (part Br) with h | h
      · exact h
      · exact absurd (HPF.out Br (by omega)) hF.1
    have hpw : part Bw = 0 := by
      rcases Nat.eq_zero_or_pos (part Bw) with h | h
      · exact h
      · exact absurd (HPF.out Bw (by omega)) hF.2
    have HR4 := hid_of (HR2.out.kept hk4 npB)
    have HH4 : Hid (HeldAt w4 Br Bw B 0) := ⟨HH2.out.1.kept hk4 (by omega), HH2.out.2.kept hk4 (by omega)⟩
    have HT4 := hid_of (HT2.out.kept hk4 (by omega))
    have HK04 : Hid (Kept (fun b => part b = 10 ∧ b < w.heap.size) w w4) := (Kept.of_below HB2.out (X := fun b => part b = 10 ∧ b < w.heap.size) (fun b h1 h2 => by omega)).trans hk4
    have HKS4 := hid_of (HKS.out.below.kept HK04.out (fun b h1 h2 => by omega))
    have HM4 := hid_of (HM.out.kept HK04.out (fun h => by have := HPM.out; omega))
    have HML := HM.out.lt
    clear r0 b0 b1 b2 x0 x1 x2 hk4
    have r0 := HH4.out.1.cell (o := 0) rfl
    by_cases hlt : s.room < (L.length : Int) + (n : Int)
    · have hd : decide (s.room < (L.length : Int) + (n : Int)) = true := decide_eq_true hlt
      rw [hd]
      rw [if_pos hlt] at hif4
      have hres : res = ({ s with over := true }, 6) := by rw [← HRES.out]; unfold doneS; rw [HN.out, if_pos hlt]
      have HRS := hid_of hres
      have hwb : Below w.heap.size w w4 := HB2.out.trans (hif4.mono s2)
      have HWB := hid_of hwb
      have c6 := HR4.out.cell (o := 6) rfl
      have f6 := HR4.out.frozen 6
      clear hd hres hwb hif4
      go_wp2_with fail
      go_ret
      rw [HRS.out]
      have k5 : Kept (· = B) w (w4.setCell ⟨B, 6, none⟩ (.bool true)) := (Kept.of_below HWB.out (X := (· = B)) (fun b h1 h2 => by omega)).andThen ((Kept.refl (· = B) w4).setCell (.inl (by rfl)) _) (fun b _ h => h)
      have hg : ∀ t, t ≠ 0 → t ≠ 1 → ∀ g, g < w.heap.size → part g = t → ¬ g = B ∧ part g = t := fun t h0 h1 g hl e => ⟨fun h => by subst h; have := HPB.out; omega, e⟩
      refine ⟨rfl, ⟨part, fun b hb => .inl (HPF.out b hb), ⟨_, _, M, D, xs, HR4.out.setAt 6 _, HPB.out, ?_, ⟨HROW.out.kept k5 (hg 7 (by omega) (by omega)), HXL.out, fun i p q hp hq => (HTL.out i p q hp hq).kept k5 (hg _ (by omega) (by omega))⟩, HM.out.kept k5 (hg 3 (by omega) (by omega) M HML HPM.out).1, HPM.out, hDs⟩⟩, k5.mono (fun b _ h => by subst h; exact HPF.out b (by have := HPB.out; omega))⟩
      exact (HKS.out.below.kept k5 (fun b hb => (hg 6 (by omega) (by omega) b hb.2 hb.1).1)).mono' (fun b hb => hb.1)
    · have hd : decide (s.room < (L.length : Int) + (n : Int)) = false := decide_eq_false hlt
      rw [hd]
      rw [if_neg hlt] at hif4
      have hres : res = ({ s with W := s.W.set 0 { x with tasks := L ++ children s.ks t }, values := putS s.values (t.id, valueOf s.ks t) }, 0) := by rw [← HRES.out]; unfold doneS; rw [HN.out, if_neg hlt]
      have HRS := hid_of hres
      have HTL4 := hid_of hif4
      have i0 := HH4.out.2.cell (o := 0) rfl
      have b0 : w4.cell? ⟨B, 0, none⟩ = some (.slice ka s.ks.length kc) := HR4.out.cell (o := 0) rfl
      have b1 : w4.cell? ⟨B, 1, none⟩ = some (.int .i64 s.kind) := HR4.out.cell (o := 1) rfl
      have b2 : w4.cell? ⟨B, 2, none⟩ = some (.int .i64 s.arg) := HR4.out.cell (o := 2) rfl
      have x0 := HT4.out.cell (o := 0) rfl
      have x1 := HT4.out.cell (o := 1) rfl
      have x2 := HT4.out.cell (o := 2) rfl
      have hMB : M ≠ B := fun h => by have h1 := HPB.out; have h2 := HPM.out; rw [h] at h2; omega
      have hMr : M ≠ Br := fun h => by have h2 := HPM.out; rw [h] at h2; omega
      have hMw : M ≠ Bw := fun h => by have h2 := HPM.out; rw [h] at h2; omega
      have HST : Hid (∀ U, Kept (· = M) w4 U → Kept (· = M) w4 U ∧ U.cell? ⟨Br, 0, none⟩ = some (.pointer (some ⟨B, 0, none⟩)) ∧ U.cell? ⟨Bw, 0, none⟩ = some (.int .i64 0) ∧ U.cell? ⟨B, 0, none⟩ = some (.slice ka s.ks.length kc) ∧ U.cell? ⟨B, 1, none⟩ = some (.int .i64 s.kind) ∧ U.cell? ⟨B, 2, none⟩ = some (.int .i64 s.arg) ∧ U.cell? ⟨w1.heap.size, 0, none⟩ = some (.string t.id) ∧ U.cell? ⟨w1.heap.size, 1, none⟩ = some (.int .i64 t.kind) ∧ U.cell? ⟨w1.heap.size, 2, none⟩ = some (.int .i64 t.arg)) := fun U hU =>
        ⟨hU, (hU.cell (p := ⟨Br, 0, none⟩) HH4.out.1.lt (fun h => hMr h.symm)).trans r0, (hU.cell (p := ⟨Bw, 0, none⟩) HH4.out.2.lt (fun h => hMw h.symm)).trans i0, (hU.cell (p := ⟨B, 0, none⟩) HR4.out.lt (fun h => hMB h.symm)).trans b0, (hU.cell (p := ⟨B, 1, none⟩) HR4.out.lt (fun h => hMB h.symm)).trans b1, (hU.cell (p := ⟨B, 2, none⟩) HR4.out.lt (fun h => hMB h.symm)).trans b2,
          (hU.cell (p := ⟨w1.heap.size, 0, none⟩) HT4.out.lt (fun h => by have h' : w1.heap.size = M := h; omega)).trans x0, (hU.cell (p := ⟨w1.heap.size, 1, none⟩) HT4.out.lt (fun h => by have h' : w1.heap.size = M := h; omega)).trans x1, (hU.cell (p := ⟨w1.heap.size, 2, none⟩) HT4.out.lt (fun h => by have h' : w1.heap.size = M := h; omega)).trans x2⟩
      have HVA : Hid (∀ U, Below w4.heap.size w4 U → Calls Tryz.prog 64 #[.agg #[.slice ka s.ks.length kc, .int .i64 s.kind, .int .i64 s.arg], .agg #[.string t.id, .int .i64 t.kind, .int .i64 t.arg]] U fun e w' => e = .returned (.agg #[.string t.id, .int .i64 (valueOf s.ks t)]) ∧ Below w4.heap.size w4 w' ∧ (∀ o, Below w4.heap.size w4 (w'.alloc o)) ∧ Kept (· = M) w4 w') := fun U hU => by
        refine (value_calls (.slice ka s.ks.length kc) s.kind s.arg s.ks t _ U (HKS4.out.kept (Kept.of_below (X := fun b => w4.heap.size ≤ b) hU (fun _ _ h => h)) (fun b h => by omega)) hprog hGd.1 hGd.2.1 hGd.2.2.1 h12).mono ?_
        rintro e w' ⟨rfl, h1⟩
        have h2 := hU.trans (h1.mono hU.size)
        exact ⟨rfl, h2, fun o => h2.alloc h2.size o, Kept.of_below h2 (fun b h1 h2 => by omega)⟩
      have HBR : Hid (∀ U b, Below w4.heap.size w4 U → U.cell? ⟨b, 0, none⟩ = some (.string t.id) → U.cell? ⟨b, 1, none⟩ = some (.int .i64 (valueOf s.ks t)) → b < U.heap.size → Calls Tryz.prog 116 #[.pointer (some ⟨B, 0, none⟩), .int .i64 0, .slice (some ⟨b, 0, none⟩) 1 1] U fun e w' => ∃ u, e = .returned u ∧ MapIs w' M (D.put (keyL t.id) (elemD (valueOf s.ks t))) ∧ Kept (· = M) w4 w') := fun U b hU c0 c1 hbl => by
        refine (bring_calls B M b D _ t.id (valueOf s.ks t) U (HR4.out.below hU HR4.out.lt) rfl (HM4.out.below hU HM4.out.lt) (by omega) (by have := hGd.2.2.2; have := hGd.2.2.1; omega) (valueOf_wf hprog hGd) c0 c1 hbl).mono ?_
        rintro e w' ⟨⟨u, rfl⟩, h1, h2⟩
        exact ⟨u, rfl, h1, (Kept.of_below hU (X := (· = M)) (fun b h1 h2 => by omega)).trans h2⟩
      clear hd hres hif4
      go_upto_region 6 with fail
      go_region_held3 (fun U => Kept (· = M) w4 U ∧ U.cell? ⟨Br, 0, none⟩ = some (.pointer (some ⟨B, 0, none⟩)) ∧ U.cell? ⟨Bw, 0, none⟩ = some (.int .i64 0) ∧ U.cell? ⟨B, 0, none⟩ = some (.slice ka s.ks.length kc) ∧ U.cell? ⟨B, 1, none⟩ = some (.int .i64 s.kind) ∧ U.cell? ⟨B, 2, none⟩ = some (.int .i64 s.arg) ∧ U.cell? ⟨w1.heap.size, 0, none⟩ = some (.string t.id) ∧ U.cell? ⟨w1.heap.size, 1, none⟩ = some (.int .i64 t.kind) ∧ U.cell? ⟨w1.heap.size, 2, none⟩ = some (.int .i64 t.arg))
        (first | assumption | (exact HST.out _ (by assumption)) | (exact HST.out _ (Kept.refl _ _)) | (exact HST.out _ (Kept.refl _ _).drew) | (exact HST.out _ ((And.left (by assumption) : Kept (· = M) w4 _).trans (Kept.alloc _ _ _))) | (exact HST.out _ ((by assumption : Kept (· = M) w4 _).trans (Kept.alloc _ _ _))))
        (first
        | (go_at_call 64; refine (HVA.out _ (by first | assumption | exact Below.refl _ _ | exact (Below.refl _ _).drew)).mono ?_; rintro e w5 ⟨rfl, hb5, hb5a, hk5⟩)
        | (go_at_call 116; refine (HBR.out _ _ (by first | assumption | exact hb5a _) (by simp) (by simp) (by simp)).mono ?_; rintro e w6 ⟨u6, rfl, hm6, hk6⟩))
      all_goals
        go_wp2_with fail
        go_ret
        rw [HRS.out]
        have kk : Kept (fun b => (part b = 10 ∧ b < w.heap.size) ∨ b = M) w w6 := (HK04.out.mono (fun b _ h => .inl h)).trans (hk6.mono (fun b _ h => .inr h))
        have s6 := hk6.size
        have hg : ∀ t, t ≠ 0 → t ≠ 3 → t ≠ 10 → ∀ g, g < w.heap.size → part g = t → ¬ ((part g = 10 ∧ g < w.heap.size) ∨ g = M) ∧ (fun b => if b < w.heap.size then part b else if b < w4.heap.size then 10 else 0) g = t := fun t h0 h3 h10 g hl e => ⟨fun h => by
          rcases h with h | h
          · omega
          · subst h; have := HPM.out; omega, (if_pos hl).trans e⟩
        have htidy : Tidy D := World.ownsMap.tidy HM.out strKeyed
        have hsz : Maps.size (D.put (keyL t.id) (elemD (valueOf s.ks t))) ≤ (putS s.values (t.id, valueOf s.ks t)).length := by
          rw [size_put htidy, putS_length]
          split <;> omega
        refine ⟨rfl, ⟨fun b => if b < w.heap.size then part b else if b < w4.heap.size then 10 else 0, fun b hb => ?_, ⟨_, _, M, _, xs, HR4.out.kept hk6 (fun h => hMB h.symm), (if_pos hbl).trans HPB.out, ?_, ⟨HROW.out.kept kk (hg 7 (by omega) (by omega) (by omega)), by rw [HXL.out]; simp, fun i p q hp hq => ?_⟩, hm6, (if_pos HML).trans HPM.out, hsz⟩⟩, kk.mono (fun b _ h => HPF.out b (by rcases h with h | h; omega; subst h; have := HPM.out; omega))⟩
        · dsimp only at hb
          by_cases h : b < w.heap.size
          · rw [if_pos h] at hb
            exact .inl (HPF.out b hb)
          · exact .inr (by omega)
        · exact (HKS.out.below.kept kk (fun b hb => (hg 6 (by omega) (by omega) (by omega) b hb.2 hb.1).1)).mono' (fun b hb => (hg 6 (by omega) (by omega) (by omega) b hb.2 hb.1).2)
        · cases i with
          | zero =>
            have e1 : p = y := by have := hp.symm.trans HY.out; simpa using this
            have e2 : { x with tasks := L ++ children s.ks t } = q := by
              have h0 : 0 < s.W.length := by have := HXL.out; omega
              simpa [h0] using hq
            subst e1 e2
            rw [HYT.out]
            exact HTL4.out.kept hk6 (fun g' hg' h => ⟨fun h' => by subst h'; have := HPM.out; omega, by
              rcases h with h | h
              · exact (if_pos h.2).trans h.1
              · exact (if_neg (by omega)).trans (if_pos hg')⟩)
          | succ i =>
            have hq' : s.W[i + 1]? = some q := by simpa using hq
            exact (HTL.out (i + 1) p q hp hq').kept kk (hg _ (by omega) (by omega) (by omega))
end Go.Proofs.YtgbneeohaboncaaGreatDoor
