/-
  gleanref's Run.Work keeps to the document's answer as plain data, for a worker that is idle and for worker 0.
-/
import Derived.Test.YteahdfeialekbaaGreatDoorRefWork
namespace Go.Proofs.YteahdfeialekbaaGreatDoor
open Go Go.RowKit
set_option maxHeartbeats 8000000 in
set_option maxRecDepth 100000 in
theorem ref_work_calls (F : Nat -> Prop) (B : Nat) (s : RunS) (i : Int) (w : World) (hr : RefOK F w B s) (hf : Fits s) (hv : s.values.length <= 900000) (hi : i = 0 \/ (tasksS s i).1 = []) :
  Calls Tryz.prog 48 #[.pointer (some ⟨B, 0, none⟩), .int .i64 i] w fun e w' => e = .returned (.int .i64 (workS s i).2) /\ RefOK (fun b => F b \/ w.heap.size <= b) w' B (workS s i).1 /\ Kept F w w' := by
 have HE : Hid (Calls Tryz.prog 84 #[.pointer (some ⟨B, 0, none⟩), .int .i64 i] w fun e w' => e = .returned (.int .i64 (workerE s i)) /\ w' = w) := ref_worker_calls F B s i w hr
 have HR0 : Hid (RefOK (fun b => F b \/ w.heap.size <= b) w B s) := hr.kept (Kept.refl (fun _ => False) w) (fun g _ h => ⟨fun h => h, .inl h⟩)
 obtain ⟨iT, hiT, hzT0, hzT1, hzT2⟩ := info_parts infoTask
 by_cases hw : workerE s i = 0
 case neg =>
  have hs : workS s i = (s, workerE s i) := by simp [workS, hw]
  rw [hs]
  obtain ⟨e, he⟩ : ∃ e, workerE s i = e := ⟨_, rfl⟩
  rw [he] at HE hw ⊢
  have hb : (e == 0) = false := by rw [beq_eq_false_iff_ne]; exact hw
  clear hs he hr
  go_enter Tryz.func48, Tryz.ntmps48
  go_wp2_with (go_at_call 84; refine HE.out.mono ?_; rintro e w1 ⟨rfl, rfl⟩)
  go_ret
  exact ⟨rfl, HR0.out, Kept.refl _ _⟩
 have hin : 0 <= i /\ i < s.workers := by
  unfold workerE at hw
  split at hw
  ·omega
  ·rename_i h
   rw [hw] at h
   omega
 obtain ⟨k, rfl⟩ := Int.eq_ofNat_of_zero_le hin.1
 have hlen := hf.len
 have hk : k < s.W.length := by omega
 obtain ⟨x, hx⟩ : ∃ x, s.W[k]? = some x := ⟨_, List.getElem?_eq_getElem hk⟩
 have htk : (tasksS s (k : Int)).1 = x.tasks := by
  unfold tasksS
  rw [if_neg (by omega)]
  simp [hx]
 rw [htk] at hi
 obtain ⟨part, hpF, kv, wv, lv, yv, vv, av, ps, rows, hbR, hpR, hks, ⟨hwr, hwl, hws⟩, ⟨hlr, hll', hls⟩, hyr, hvr, har⟩ := hr
 obtain ⟨p, hp⟩ : ∃ p, ps[k]? = some p := ⟨_, List.getElem?_eq_getElem (by omega)⟩
 obtain ⟨tv, hbp, hpp, htr⟩ := hws k p x hp hx
 obtain ⟨gw, wc, hwf, hgl, cg⟩ : ∃ g c, wv = .slice (some ⟨g, 0, none⟩) ps.length c /\ g < w.heap.size /\ w.cell? ⟨g, k, none⟩ = some (.pointer (some ⟨p, 0, none⟩)) := by
  obtain ⟨a9, c9, rfl, hc9⟩ := row_slice hwr.1
  obtain ⟨g, rfl, h2, h3, h4⟩ := hc9 k _ (by have := flat_get (sz := 1) (enc := ptrEnc) (fun _ => rfl) ps k p 0 (.pointer (some ⟨p, 0, none⟩)) hp rfl; rw [Nat.mul_one, Nat.add_zero] at this; exact this)
  exact ⟨g, c9, rfl, h3, h4⟩
 subst hwf
 have b6 := hbR.cell (o := 6) rfl
 have t0 := hbp.cell (o := 0) rfl
 have i1 : (0 : Int) <= (k : Int) := by omega
 have i2 : (k : Int) < (ps.length : Int) := by omega
 have HBR := hid_of hbR
 have HBP := hid_of hbp
 have HX : Hid (s.W[k]? = some x) := hx
 have hfew : (x.tasks.length : Int) <= 20 := by have h1 := hf.few x (List.mem_of_getElem? hx); have := hf.rmax; omega
 rw [hw] at HE
 rcases List.eq_nil_or_concat x.tasks with hxt | ⟨L, t, hxt⟩
 ·have hs : workS s (k : Int) = (s, 8) := by simp [workS, hw, hx, hxt]
  rw [hs]
  have htv : ∃ a c, tv = .slice a 0 c := by
   obtain ⟨a, c, h⟩ := row_form htr.1
   rw [hxt] at h
   exact ⟨a, c, h⟩
  obtain ⟨ta, tc, rfl⟩ := htv
  clear hs hbR hbp hks hwr hws hlr hls hyr hvr har htr HBR HBP
  go_enter Tryz.func48, Tryz.ntmps48
  go_wp2_with (go_at_call 84; refine HE.out.mono ?_; rintro e w1 ⟨rfl, rfl⟩)
  go_ret
  exact ⟨rfl, HR0.out, Kept.refl _ _⟩
 rw [List.concat_eq_append] at hxt
 have hk0 : k = 0 := by
  rcases hi with h | h
  ·omega
  ·rw [hxt] at h; simp at h
 subst hk0
 have hgd := hf.good x (List.mem_of_getElem? hx) t (by rw [hxt]; simp)
 have hGd : Good s.ks t := hgd.1
 have h12 : t.arg <= 12 := hgd.2
 have hprog := hf.prog
 obtain ⟨gt, tc, htf, -, hgt⟩ := World.ownsRow.form htr.1 (by rw [hxt]; simp)
 have HTR := hid_of htr
 obtain ⟨ka, kc, hkf, -⟩ := id hks
 subst htf hkf
 have htn : x.tasks.length = L.length + 1 := by rw [hxt]; simp
 have HTR' : Hid (w.ownsRow 0 76 3 (.slice (some ⟨gt, 0, none⟩) (L.length + 1) tc) (L.length + 1) (L.flatMap taskEnc ++ taskEnc t)) := by
  have h9 := htr.1
  rw [htn, hxt, List.flatMap_append] at h9
  show w.ownsRow _ _ _ _ _ _
  simpa using h9
 have hcell : ∀ j u, (taskEnc t)[j]? = some u -> w.cell? ⟨gt, L.length * 3 + j, none⟩ = some u := fun j u hj => by
  have h1 := HTR'.out.cells (g := gt) rfl (L.length * 3 + j) u (by
   have hfl : (L.flatMap taskEnc).length = L.length * 3 := flat_length (sz := 3) (enc := taskEnc) (fun _ => rfl) L
   rw [List.getElem?_append_right (by omega), hfl, show L.length * 3 + j - L.length * 3 = j from by omega]
   exact hj)
  rwa [addr_add] at h1
 have e0 : w.cell? ⟨gt, L.length * 3, none⟩ = some (.string t.id) := hcell 0 _ rfl
 have e1 : w.cell? ⟨gt, L.length * 3 + 1, none⟩ = some (.int .i64 t.kind) := hcell 1 _ rfl
 have e2 : w.cell? ⟨gt, L.length * 3 + 2, none⟩ = some (.int .i64 t.arg) := hcell 2 _ rfl
 have t0' : w.cell? ⟨p, 0, none⟩ = some (.slice (some ⟨gt, 0, none⟩) (L.length + 1) tc) := by rw [<- htn]; exact t0
 have b1 : w.cell? ⟨B, 1, none⟩ = some (.int .i64 s.room) := hbR.cell (o := 1) rfl
 have b3 : w.cell? ⟨B, 3, none⟩ = some (.slice ka s.ks.length kc) := hbR.cell (o := 3) rfl
 have b4 : w.cell? ⟨B, 4, none⟩ = some (.int .i64 s.kind) := hbR.cell (o := 4) rfl
 have b5 : w.cell? ⟨B, 5, none⟩ = some (.int .i64 s.arg) := hbR.cell (o := 5) rfl
 have hL20 : L.length <= 19 := by omega
 have hch3 : (children s.ks t).length <= 3 := children_length hprog t
 have HKS := hid_of hks
 have hw1 : IntKind.i64.wrap (((L.length + 1 : Nat) : Int) - 1) = (L.length : Int) := by rw [IntWalk.i64_in _ (by omega)]; omega
 have hw2 : (((L.length + 1 : Nat) : Int) - 1) = (L.length : Int) := by omega
 have j1 : (0 : Int) <= (L.length : Int) := by omega
 have j2 : (L.length : Int) < ((L.length + 1 : Nat) : Int) := by omega
 have HPR : Hid (part B = 1) := hpR
 have HPF := hid_of hpF
 have HPP : Hid (part p = 10 + 0) := hpp
 have HP : Hid (ps[0]? = some p) := hp
 have HWR := hid_of hwr
 have HWL := hid_of hwl
 have HWS := hid_of hws
 have HLR := hid_of hlr
 have HLL := hid_of hll'
 have HLS := hid_of hls
 have HYR := hid_of hyr
 have HVR := hid_of hvr
 have HAR := hid_of har
 have HXT : Hid (x.tasks = L ++ [t]) := hxt
 have HWE : Hid (workerE s ((0 : Nat) : Int) = 0) := hw
 clear hpF hbR hpR hks hwr hwl hws hlr hll' hls hyr hvr har hbp hpp htr hp hx htk hcell t0 hxt hi hw hgd
 have hbl := HBR.out.lt
 obtain ⟨res, hres⟩ : ∃ res, workS s ((0 : Nat) : Int) = res := ⟨_, rfl⟩
 have HRES : Hid (workS s ((0 : Nat) : Int) = res) := hres
 rw [hres]
 clear hres
 go_enter Tryz.func48, Tryz.ntmps48
 go_upto_region 9 with (go_at_call 84; refine HE.out.mono ?_; rintro e w1 ⟨rfl, hq⟩; obtain rfl := hq.symm)
 obtain ⟨W1, hW1⟩ : ∃ W1, w.alloc (Obj.cells #[.string t.id, .int .i64 t.kind, .int .i64 t.arg] 76) = W1 := ⟨_, rfl⟩
 have hb1 : Below w.heap.size w W1 := by rw [<- hW1]; exact (Below.refl _ _).alloc (Nat.le_refl _) _
 have HT1 : Hid (BoxAt W1 w.heap.size 76 #[.string t.id, .int .i64 t.kind, .int .i64 t.arg]) := by rw [<- hW1]; exact BoxAt.new w _ _
 have sz1 : W1.heap.size = w.heap.size + 1 := by rw [<- hW1]; simp
 rw [hW1]
 clear hW1
 have HB1 := hid_of hb1
 have HKU : Hid (∀ U, Below w.heap.size w U -> KindsAt (fun b => part b = 6 /\ b < w.heap.size) U (.slice ka s.ks.length kc) s.ks) := fun U hU => HKS.out.below.kept (Kept.of_below (X := fun b => w.heap.size <= b) hU (fun _ _ h => h)) (fun b h => by omega)
 have HCHI : Hid (∀ U, Below W1.heap.size W1 U -> Calls Tryz.prog 85 #[.agg #[.slice ka s.ks.length kc, .int .i64 s.kind, .int .i64 s.arg], .agg #[.string t.id, .int .i64 t.kind, .int .i64 t.arg]] U fun e w' => ∃ v, e = .returned v /\ (w'.ownsRow W1.heap.size 76 3 v (children s.ks t).length ((children s.ks t).flatMap taskEnc) /\ Below W1.heap.size W1 w')) := fun U hU => by
  refine (ref_children_calls _ ka kc s.kind s.arg s.ks t U (HKU.out U (hb1.trans (hU.mono (by omega)))) hprog hGd).mono ?_
  rintro e w' ⟨v, rfl, h1, h2, h3⟩
  exact ⟨v, rfl, row_kept h1 (Kept.refl (fun _ => False) _) (fun _ _ h => h) hU.size, hU.trans (h3.mono hU.size)⟩
 have d3 := (hb1.cell (p := ⟨B, 3, none⟩) hbl).trans b3
 have d4 := (hb1.cell (p := ⟨B, 4, none⟩) hbl).trans b4
 have d5 := (hb1.cell (p := ⟨B, 5, none⟩) hbl).trans b5
 have x0 := HT1.out.cell (o := 0) rfl
 have x1 := HT1.out.cell (o := 1) rfl
 have x2 := HT1.out.cell (o := 2) rfl
 clear b3 b4 b5 hb1
 go_cut [9] (fun cv wx => wx.ownsRow W1.heap.size 76 3 cv (children s.ks t).length ((children s.ks t).flatMap taskEnc) /\ Below W1.heap.size W1 wx)
 case first =>
  go_region_law (refine step_call2 (by rfl) 85 _ _ _ (by rfl) (.agg #[.slice ka s.ks.length kc, .int .i64 s.kind, .int .i64 s.arg]) (.agg #[.string t.id, .int .i64 t.kind, .int .i64 t.arg]) (by rfl) (by rfl) (enters_of Tryz.func85 (by kernel_rfl) rfl) (HCHI.out _ (by first | assumption | exact Below.refl _ _ | exact (Below.refl _ _).drew | exact Below.drew (by assumption))) ?_; rintro v9 w9 ⟨hr9, hb9⟩)
  all_goals
   go_wp2_with fail
   go_meet
   case rel => exact ⟨hr9, hb9⟩
 case rest =>
  obtain ⟨hcv, hb2⟩ := hcut
  rename World => w2
  have HCV := hid_of hcv
  have HB2 := hid_of hb2
  have sz2 := hb2.size
  obtain ⟨ca, cc, hcf⟩ := row_form hcv
  subst hcf
  have hbw2 : Below w.heap.size w w2 := HB1.out.trans (hb2.mono (by omega))
  have HBW2 := hid_of hbw2
  have r1 := (hbw2.cell (p := ⟨B, 1, none⟩) hbl).trans b1
  clear d3 d4 d5 x0 x1 x2 hcv hb2 b1
  obtain ⟨c, hc⟩ : ∃ c, (children s.ks t).length = c := ⟨_, rfl⟩
  have HCL : Hid ((children s.ks t).length = c) := hc
  rw [hc] at hch3 HCV
  rw [hc]
  clear hc
  have hg1 : ∀ t, t ≠ 0 -> t ≠ 1 -> ∀ g, g < w.heap.size -> part g = t -> ¬ g = B /\ part g = t := fun t h0 h1 g hl e => ⟨fun h => by subst h; have := HPR.out; omega, e⟩
  have HG1 := hid_of hg1
  clear hg1
  have hwa : IntKind.i64.wrap ((L.length : Int) + (c : Int)) = (L.length : Int) + (c : Int) := IntWalk.i64_in _ (by omega)
  by_cases hov : s.room < (L.length : Int) + (c : Int)
  ·have hs : workS s ((0 : Nat) : Int) = ({ s with over := true }, 6) := by
    simp only [workS, HWE.out, ne_eq, not_true_eq_false, if_false, Int.toNat_natCast, HX.out, HXT.out, List.getLast?_append, List.getLast?_singleton, Option.some_or, HCL.out, List.length_append, List.length_singleton]
    rw [if_pos (by omega)]
   have HS : Hid (res = ({ s with over := true }, 6)) := HRES.out.symm.trans hs
   have hb9 := HBR.out.below HBW2.out hbl
   have f13 := hb9.frozen 13
   have c13 := hb9.cell (o := 13) rfl
   have HB9 := hid_of hb9
   clear hs hb9
   go_wp2_with fail
   go_ret
   rw [HS.out]
   have k2 : Kept (· = B) w (w2.setCell ⟨B, 13, none⟩ (.bool true)) := (Kept.of_below HBW2.out (X := (· = B)) (fun b h1 h2 => by omega)).andThen ((Kept.refl (· = B) w2).setCell (.inl (by rfl)) _) (fun b _ h => h)
   refine ⟨rfl, ⟨part, fun b hb => .inl (HPF.out b hb), ⟨_, _, _, yv, vv, av, ps, rows, HB9.out.setAt 13 _, HPR.out, ?_, ⟨HWR.out.kept k2 (HG1.out 7 (by omega) (by omega)), HWL.out, fun i q y hq hy => (HWS.out i q y hq hy).kept k2 (HG1.out _ (by omega) (by omega))⟩, ⟨HLR.out.kept k2 (HG1.out 8 (by omega) (by omega)), HLL.out, fun i r ls hr hl => (HLS.out i r ls hr hl).kept k2 (fun g hg' e => ⟨(HG1.out _ (by omega) (by omega) g hg' rfl).1, rfl⟩)⟩, HYR.out.kept k2 (HG1.out 2 (by omega) (by omega)), HVR.out.kept k2 (HG1.out 3 (by omega) (by omega)), HAR.out.kept k2 (HG1.out 4 (by omega) (by omega))⟩⟩, k2.mono (fun b _ h => by subst h; exact HPF.out b (by have := HPR.out; omega))⟩
   exact (HKS.out.below.kept k2 (fun b hb => (HG1.out 6 (by omega) (by omega) b hb.2 hb.1).1)).mono' (fun b hb => hb.1)
  ·have hno : ¬ s.room < (L.length : Int) + (c : Int) := hov
   have HPW2 : Hid (BoxAt w2 p 142 (workerCells (.slice (some ⟨gt, 0, none⟩) (L.length + 1) tc) x)) := by
    have := HBP.out
    rw [htn] at this
    exact this.below HBW2.out this.lt
   have p0 := HPW2.out.cell (o := 0) rfl
   have f0 := HPW2.out.frozen 0
   have HNW : Hid (∀ j u, (L.flatMap taskEnc)[j]? = some u -> ∃ b, (some ⟨gt, 0, none⟩ : Option Addr) = some b /\ w2.cell? (b.add j) = some u) := fun j u hj => by
    have h1 := HTR'.out.cells (g := gt) rfl j u (by rw [List.getElem?_append_left (List.getElem?_eq_some_iff.1 hj).1]; exact hj)
    rw [addr_add] at h1
    refine ⟨_, rfl, ?_⟩
    rw [addr_add]
    exact (HBW2.out.cell (p := ⟨gt, j, none⟩) hgt).trans h1
   have HFL : Hid ((L.flatMap taskEnc).length = L.length * 3) := flat_length (sz := 3) (enc := taskEnc) (fun _ => rfl) L
   have HFC : Hid (((children s.ks t).flatMap taskEnc).length = c * 3) := by show _ = _; rw [<- HCL.out]; exact flat_length (sz := 3) (enc := taskEnc) (fun _ => rfl) _
   have j3 : (L.length : Int) <= (tc : Int) := by
    rcases HTR'.out.2 with ⟨h0, _⟩ | ⟨g', cap', cur, h0, _, _, h1, _⟩
    ·cases h0
    ·cases h0; omega
   have j4 : L.length <= tc := by omega
   go_upto_region 15 with (at_builtin; refine wpList_append_any rfl _ _ _ rfl w2.heap.size 76 iT _ 3 32 Tryz.underlying52 hiT hzT0 hzT1 hzT2 rfl (by omega) (.slice none 0 0) 0 [] rfl (World.ownsRow_nil _ _ _ _) (some ⟨gt, 0, none⟩) L.length tc (L.flatMap taskEnc) rfl HFL.out HNW.out (flat_one taskEnc_one _) (by unfold maxLen; omega) (by omega) (Nat.le_refl _) ?_; intro v3 w3 hown3 hgrow3; rw [Nat.zero_add, List.nil_append] at hown3; obtain ⟨a3, c3, rfl⟩ := row_form hown3)
   have hs : workS s ((0 : Nat) : Int) = ({ s with W := s.W.set 0 { x with tasks := L ++ children s.ks t }, values := putS s.values (t.id, valueOf s.ks t) }, 0) := by
    simp only [workS, HWE.out, ne_eq, not_true_eq_false, if_false, Int.toNat_natCast, HX.out, HXT.out, List.getLast?_append, List.getLast?_singleton, Option.some_or, HCL.out, List.length_append, List.length_singleton, List.dropLast_concat]
    rw [if_neg (by omega)]
    rfl
   have HS : Hid (res = ({ s with W := s.W.set 0 { x with tasks := L ++ children s.ks t }, values := putS s.values (t.id, valueOf s.ks t) }, 0)) := HRES.out.symm.trans hs
   have k23 : Kept (fun _ => False) w2 w3 := Kept.grown hgrow3 (fun r e => by cases e)
   have HK23 := hid_of k23
   have sz3 := k23.size
   have hbw3 : Below w.heap.size w w3 := HBW2.out.trans (k23.below (by have := HBW2.out.size; omega) (fun _ h => h.elim))
   have HBW3 := hid_of hbw3
   have HOWN3 := hid_of hown3
   have HPW3 : Hid (BoxAt w3 p 142 (workerCells (.slice (some ⟨gt, 0, none⟩) (L.length + 1) tc) x)) := HPW2.out.kept k23 (fun h => h)
   have HCV3 : Hid (w3.ownsRow W1.heap.size 76 3 (.slice ca c cc) c ((children s.ks t).flatMap taskEnc)) := row_kept HCV.out k23 (fun _ _ h => h) (Nat.le_refl _)
   have HNC : Hid (∀ j u, ((children s.ks t).flatMap taskEnc)[j]? = some u -> ∃ b, ca = some b /\ w3.cell? (b.add j) = some u) := fun j u hj => by
    obtain ⟨a9, c9, h9, hc9⟩ := row_slice HCV3.out
    cases h9
    obtain ⟨g, h1, h2, h3, h4⟩ := hc9 j u hj
    exact ⟨_, h1, by rw [addr_add]; exact h4⟩
   have hsW : w.heap.size <= w2.heap.size := HBW2.out.size
   clear p0 f0 hs hgrow3 hown3 k23 hbw3 r1
   go_upto_region 16 with (at_builtin; refine wpList_append_any rfl _ _ _ rfl w2.heap.size 76 iT _ 3 32 Tryz.underlying52 hiT hzT0 hzT1 hzT2 rfl (by omega) (.slice a3 L.length c3) L.length (L.flatMap taskEnc) rfl HOWN3.out ca c cc ((children s.ks t).flatMap taskEnc) rfl HFC.out HNC.out (flat_one taskEnc_one _) (by unfold maxLen; omega) (by omega) (by omega) ?_; intro v4 w4 hown4 hgrow4; obtain ⟨a4, c4, rfl⟩ := row_form hown4; have hpw4 : BoxAt w4 p 142 (workerCells (.slice (some ⟨gt, 0, none⟩) (L.length + 1) tc) x) := (hgrow4.block p HPW3.out.lt (fun e => row_ne HOWN3.out HPW3.out (by decide) e.symm)).trans HPW3.out; have p0 := hpw4.cell (o := 0) rfl; have f0 := hpw4.frozen 0)
   obtain ⟨W5, hW5⟩ : ∃ W5, w4.setCell ⟨p, 0, none⟩ (.slice a4 (L.length + c) c4) = W5 := ⟨_, rfl⟩
   have hpB : p ≠ B := fun e => by have h1 := HPR.out; have h2 := HPP.out; rw [e] at h2; omega
   have HPW5 : Hid (BoxAt W5 p 142 (workerCells (.slice a4 (L.length + c) c4) { x with tasks := L ++ children s.ks t })) := by rw [<- hW5]; exact hpw4.setAt 0 _
   have k34 : Kept (fun b => w2.heap.size <= b) w3 w4 := Kept.grown hgrow4 (fun r e => (HOWN3.out.lt r e).1)
   have k45 : Kept (· = p) w4 W5 := by rw [<- hW5]; exact (Kept.refl _ _).setCell (.inl (by rfl)) _
   have HROW5 : Hid (W5.ownsRow w2.heap.size 76 3 (.slice a4 (L.length + c) c4) (L.length + c) (L.flatMap taskEnc ++ (children s.ks t).flatMap taskEnc)) := row_kept hown4 k45 (fun g e h => by subst h; exact row_ne hown4 hpw4 (by decide) e) (Nat.le_refl _)
   have k5 : Kept (· = p) w W5 := ((Kept.of_below HBW3.out (X := (· = p)) (fun b h1 h2 => by omega)).andThen k34 (fun b h1 h2 => by omega)).andThen k45 (fun b _ h => h)
   have HK5 := hid_of k5
   have sz5 := k5.size
   have HT5 : Hid (BoxAt W5 w.heap.size 76 #[.string t.id, .int .i64 t.kind, .int .i64 t.arg]) := by
    have h2 : BoxAt w2 w.heap.size 76 #[.string t.id, .int .i64 t.kind, .int .i64 t.arg] := HT1.out.below HB2.out (by omega)
    have h3 := h2.kept HK23.out (fun h => h)
    have h4 := h3.kept k34 (by have := h2.lt; omega)
    exact h4.kept k45 (by have := HPW3.out.lt; have := HBP.out.lt; omega)
   have HBR5 : Hid (BoxAt W5 B 103 (runCells s (.slice ka s.ks.length kc) (.slice (some ⟨gw, 0, none⟩) ps.length wc) lv yv vv av)) := HBR.out.kept k5 (fun h => hpB h.symm)
   have hxm : 0 < s.W.length := hk
   rw [hW5]
   clear hW5 hown4 hgrow4 hpw4 p0 f0 k34 k45 k5
   obtain ⟨va, vc, hvf⟩ := row_form HVR.out.1
   subst hvf
   have HKU5 : Hid (∀ U, Below W5.heap.size W5 U -> KindsAt (fun b => part b = 6 /\ b < w.heap.size) U (.slice ka s.ks.length kc) s.ks) := fun U hU => (HKS.out.below.kept HK5.out (fun b h h' => by subst h'; have := HPP.out; omega)).kept (Kept.of_below (X := fun b => W5.heap.size <= b) hU (fun _ _ h => h)) (fun b h => by omega)
   have HVAL : Hid (∀ U, Below W5.heap.size W5 U -> Calls Tryz.prog 87 #[.agg #[.slice ka s.ks.length kc, .int .i64 s.kind, .int .i64 s.arg], .agg #[.string t.id, .int .i64 t.kind, .int .i64 t.arg]] U fun e w' => ∃ v, e = .returned v /\ (v = .agg #[.string t.id, .int .i64 (valueOf s.ks t)] /\ Below W5.heap.size W5 w')) := fun U hU =>
    (ref_value_calls _ s.kind s.arg s.ks t _ U (HKU5.out U hU) hprog hGd.1 hGd.2.1 hGd.2.2.1 h12).mono fun e w' h => ⟨_, h.1, rfl, hU.trans (h.2.mono hU.size)⟩
   have HVR5 : Hid (W5.ownsRow 0 84 2 (.slice va s.values.length vc) s.values.length (pairCells s.values)) := row_kept HVR.out.1 HK5.out (fun g e h => by subst h; have h1 := HVR.out.2 g e; have h2 := HPP.out; omega) (Nat.le_refl _)
   have HPUT : Hid (∀ U, Below W5.heap.size W5 U -> Calls Tryz.prog 86 #[.slice va s.values.length vc, .agg #[.string t.id, .int .i64 (valueOf s.ks t)]] U fun e w' => ∃ v, e = .returned v /\ (w'.ownsRow W5.heap.size 84 2 v (putS s.values (t.id, valueOf s.ks t)).length (pairCells (putS s.values (t.id, valueOf s.ks t))) /\ Below W5.heap.size W5 w')) := fun U hU => by
    have hrowU := row_below HVR5.out hU (fun g' hg' => (HVR5.out.lt g' hg').2)
    refine (put_calls _ s.values (t.id, valueOf s.ks t) U (pairs_of_row hrowU).2 (by omega)).mono ?_
    rintro e w' ⟨v, rfl, h1, h2⟩
    exact ⟨v, rfl, row_kept h1 (Kept.refl (fun _ => False) _) (fun _ _ h => h) hU.size, hU.trans (h2.mono hU.size)⟩
   obtain ⟨n8, hn8⟩ : ∃ n8, (putS s.values (t.id, valueOf s.ks t)).length = n8 := ⟨_, rfl⟩
   have HN8 : Hid ((putS s.values (t.id, valueOf s.ks t)).length = n8) := hn8
   rw [hn8] at HPUT
   clear hn8
   have d3 := HBR5.out.cell (o := 3) rfl
   have d4 := HBR5.out.cell (o := 4) rfl
   have d5 := HBR5.out.cell (o := 5) rfl
   have d9 := HBR5.out.cell (o := 9) rfl
   have x0 := HT5.out.cell (o := 0) rfl
   have x1 := HT5.out.cell (o := 1) rfl
   have x2 := HT5.out.cell (o := 2) rfl
   go_upto_region 17 with fail
   go_region_law (first
    | (refine step_call2 (by rfl) 87 _ _ _ (by rfl) (.agg #[.slice ka s.ks.length kc, .int .i64 s.kind, .int .i64 s.arg]) (.agg #[.string t.id, .int .i64 t.kind, .int .i64 t.arg]) (by rfl) (by rfl) (enters_of Tryz.func87 (by kernel_rfl) rfl) (HVAL.out _ (by first | assumption | exact Below.refl _ _ | exact (Below.refl _ _).drew | exact Below.drew (by assumption))) ?_; rintro v9 w9 ⟨rfl, hb9⟩; have hB9 := HBR5.out.below hb9 HBR5.out.lt; have g9 := hB9.cell (o := 9) rfl)
    | (refine step_call2 (by rfl) 86 _ _ _ (by rfl) (.slice va s.values.length vc) (.agg #[.string t.id, .int .i64 (valueOf s.ks t)]) (by rfl) (by rfl) (enters_of Tryz.func86 (by kernel_rfl) rfl) (HPUT.out _ (by first | assumption | exact Below.refl _ _ | exact (Below.refl _ _).drew | exact Below.drew (by assumption))) ?_; rintro v8 w8 ⟨hrow8, hb8⟩; obtain ⟨a8, c8, rfl⟩ := row_form hrow8; have hB8 := HBR5.out.below hb8 HBR5.out.lt; have i9 := hB8.cell (o := 9) rfl; have f9 := hB8.frozen 9))
   all_goals
    go_wp2_with fail
    go_ret
    rw [HS.out]
    have k86 : Kept (· = B) w8 (w8.setCell ⟨B, 9, none⟩ (.slice a8 n8 c8)) := (Kept.refl _ _).setCell (.inl (by rfl)) _
    obtain ⟨W6, hW6⟩ : ∃ W6, w8.setCell ⟨B, 9, none⟩ (.slice a8 n8 c8) = W6 := ⟨_, rfl⟩
    have hBR6 : BoxAt W6 B 103 (runCells { s with W := s.W.set 0 { x with tasks := L ++ children s.ks t }, values := putS s.values (t.id, valueOf s.ks t) } (.slice ka s.ks.length kc) (.slice (some ⟨gw, 0, none⟩) ps.length wc) lv yv (.slice a8 n8 c8) av) := by rw [<- hW6]; exact hB8.setAt 9 _
    rw [hW6] at k86
    rw [hW6]
    have k56 : Kept (fun b => b = B \/ W5.heap.size <= b) W5 W6 := (Kept.of_below hb8 (X := fun b => b = B \/ W5.heap.size <= b) (fun _ _ h => .inr h)).trans (k86.mono (fun _ _ h => .inl h))
    have kk : Kept (fun b => b = p \/ b = B) w W6 := (HK5.out.mono (fun _ _ h => .inl h)).andThen k56 (fun b h1 h2 => by rcases h2 with h2 | h2; exact .inr h2; omega)
    have hg : ∀ t, t ≠ 0 -> t ≠ 1 -> t ≠ 10 -> ∀ g, g < w.heap.size -> part g = t -> ¬ (g = p \/ g = B) /\ (fun b => if b < w.heap.size then part b else if b < W5.heap.size then 10 else 3) g = t := fun t h0 h1 h10 g hl e => ⟨fun h => by
     rcases h with h | h
     ·subst h; have := HPP.out; omega
     ·subst h; have := HPR.out; omega, (if_pos hl).trans e⟩
    have hpl := HBP.out.lt
    refine ⟨rfl, ⟨fun b => if b < w.heap.size then part b else if b < W5.heap.size then 10 else 3, fun b hb => ?_, ⟨_, _, lv, yv, _, av, ps, rows, hBR6, (if_pos hbl).trans HPR.out, ?_, ⟨HWR.out.kept kk (hg 7 (by omega) (by omega) (by omega)), by rw [HWL.out]; simp, fun i q y hq hy => ?_⟩, ⟨HLR.out.kept kk (hg 8 (by omega) (by omega) (by omega)), HLL.out, fun i r ls hr hl => (HLS.out i r ls hr hl).kept kk (fun g hg' e => ⟨(hg _ (by omega) (by omega) (by omega) g hg' rfl).1, (hg _ (by omega) (by omega) (by omega) g hg' rfl).2⟩)⟩, HYR.out.kept kk (hg 2 (by omega) (by omega) (by omega)), ⟨?_, fun g e => ?_⟩, HAR.out.kept kk (hg 4 (by omega) (by omega) (by omega))⟩⟩, kk.mono (fun b _ h => HPF.out b (by rcases h with h | h; subst h; have := HPP.out; omega; subst h; have := HPR.out; omega))⟩
    ·dsimp only at hb
     by_cases h : b < w.heap.size
     ·rw [if_pos h] at hb
      exact .inl (HPF.out b hb)
     ·exact .inr (by omega)
    ·exact (HKS.out.below.kept kk (fun b hb => (hg 6 (by omega) (by omega) (by omega) b hb.2 hb.1).1)).mono' (fun b hb => (hg 6 (by omega) (by omega) (by omega) b hb.2 hb.1).2)
    ·cases i with
     | zero =>
      obtain rfl : p = q := by have := HP.out.symm.trans hq; simpa using this
      have e2 : { x with tasks := L ++ children s.ks t } = y := by simpa [hxm] using hy
      subst e2
      refine ⟨_, HPW5.out.kept k56 (by omega), (if_pos hpl).trans HPP.out, ?_, fun g e => ?_⟩
      ·rw [List.flatMap_append, List.length_append, HCL.out]
       exact ownsRow_base (row_kept HROW5.out k56 (fun g e h => by
        rcases h with h | h
        ·subst h; exact row_ne HROW5.out HBR5.out (by decide) e
        ·have := (HROW5.out.lt g e).2; omega) (Nat.le_refl _)) (Nat.zero_le _)
      ·have h1 := HROW5.out.lt g e
       exact (if_neg (by omega)).trans (if_pos h1.2)
     | succ i =>
      have hy' : s.W[i + 1]? = some y := by simpa using hy
      exact (HWS.out (i + 1) q y hq hy').kept kk (hg _ (by omega) (by omega) (by omega))
    ·rw [HN8.out]
     exact ownsRow_base (row_kept hrow8 k86 (fun g e h => by subst h; exact row_ne hrow8 hB8 (by decide) e) (Nat.le_refl _)) (Nat.zero_le _)
    ·have h1 := hrow8.lt g e
     exact (if_neg (by omega)).trans (if_neg (by omega))
end Go.Proofs.YteahdfeialekbaaGreatDoor
