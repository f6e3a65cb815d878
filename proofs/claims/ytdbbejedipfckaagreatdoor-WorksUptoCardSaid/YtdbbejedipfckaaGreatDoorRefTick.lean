/-
  gleanref's Run.Tick, the document's own answer: the oldest thing on each link that is not known to have come is put on its way again.
-/
import Derived.Test.YtdbbejedipfckaaGreatDoorRefDrop
namespace Go.Proofs.YtdbbejedipfckaaGreatDoor
open Go Go.RowKit

/-- One link's oldest thing goes on its way again. -/
def againS (s : RunS) (l : LinkS) : RunS := if l.known < (l.all.length : Int) then wayS s (l.all[l.known.toNat]?.getD msg0) else s
def tickS (s : RunS) (i : Int) : RunS × Int := if workerE s i ≠ 0 then (s, workerE s i) else ((s.links[i.toNat]?.getD []).foldl againS s, 0)
theorem wayS_eq (s : RunS) (m : MsgS) : ∃ y, wayS s m = { s with way := y } ∧ (s.way.length ≤ 60 → y.length ≤ 60) := by
  unfold wayS
  split
  · exact ⟨_, rfl, fun _ => by simp; omega⟩
  · exact ⟨s.way, rfl, fun h => h⟩
theorem againS_eq (s : RunS) (l : LinkS) : ∃ y, againS s l = { s with way := y } ∧ (s.way.length ≤ 60 → y.length ≤ 60) := by
  unfold againS
  split
  · exact wayS_eq s _
  · exact ⟨s.way, rfl, fun h => h⟩
theorem again_fold : ∀ (ls : List LinkS) (s : RunS), ∃ y, ls.foldl againS s = { s with way := y } ∧ (s.way.length ≤ 60 → y.length ≤ 60)
  | [], s => ⟨s.way, rfl, fun h => h⟩
  | l :: r, s => by
    obtain ⟨y, h1, h2⟩ := againS_eq s l
    obtain ⟨y', h3, h4⟩ := again_fold r { s with way := y }
    rw [List.foldl_cons, h1]
    exact ⟨y', h3, fun h => h4 (h2 h)⟩
/-- The cells of a link, and of one thing on it. -/
theorem LinkAt.thing {X : Nat → Prop} {w : World} {q : Nat} {l : LinkS} {m : MsgS} {k : Nat} (h : LinkAt X w q l) (hk : l.all[k]? = some m) :
    ∃ ga ac kv, BoxAt w q 145 (linkCells (.slice (some ⟨ga, 0, none⟩) l.all.length ac) kv l) ∧ ga < w.heap.size ∧ ∀ o u, (msgCells m)[o]? = some u → w.cell? ⟨ga, k * 15 + o, none⟩ = some u := by
  obtain ⟨av, kv, h1, h2, h3, h4⟩ := h
  obtain ⟨ga, ac, hf, -, hgl⟩ := World.ownsRow.form h3.1 (by have := (List.getElem?_eq_some_iff.1 hk).1; omega)
  subst hf
  refine ⟨ga, ac, kv, h1, hgl, fun o u ho => ?_⟩
  have := h3.1.cells (g := ga) rfl _ u (flat_get (sz := 15) (enc := msgEnc) (fun _ => rfl) l.all k m o u hk (by simpa [msgEnc] using ho))
  rwa [addr_add] at this

theorem ref_tick_nil (i : Int) (w : World) : Calls Tryz.prog 55 #[.pointer none, .int .i64 i] w fun e w' => e = .returned (.int .i64 1) ∧ w' = w := by
  go_enter Tryz.func55, Tryz.ntmps55
  go_wp2_with (go_at_call 83; refine (ref_worker_nil _ _).mono ?_; rintro e w1 ⟨rfl, hq⟩; obtain rfl := hq.symm)
  go_ret
  exact ⟨rfl, rfl⟩
set_option maxHeartbeats 8000000 in
set_option maxRecDepth 100000 in
theorem ref_tick_calls (F : Nat → Prop) (B N : Nat) (s : RunS) (i : Int) (w : World) (hr : RefOK F w B s) (hs : Shaped s) (hN : Small N s) : Calls Tryz.prog 55 #[.pointer (some ⟨B, 0, none⟩), .int .i64 i] w (RefGives F w B (tickS s i)) := by
  have HE : Hid (Calls Tryz.prog 83 #[.pointer (some ⟨B, 0, none⟩), .int .i64 i] w fun e w' => e = .returned (.int .i64 (workerE s i)) ∧ w = w') := (ref_worker_calls F B s i w hr).mono fun e w' h => ⟨h.1, h.2.symm⟩
  have HR := hid_of hr
  by_cases h1 : workerE s i = 0
  case neg =>
    have HS : Hid (tickS s i = (s, workerE s i)) := by show _ = _; simp [tickS, h1]
    obtain ⟨e1, he1⟩ : ∃ e1, workerE s i = e1 := ⟨_, rfl⟩
    rw [he1] at HE h1 HS
    have hb : (e1 == 0) = false := by rw [beq_eq_false_iff_ne]; exact h1
    clear he1 h1 hr
    go_enter Tryz.func55, Tryz.ntmps55
    go_wp2_with (go_at_call 83; refine HE.out.mono ?_; rintro e w1 ⟨rfl, rfl⟩)
    go_ret
    rw [HS.out]
    exact RefGives.same HR.out _
  obtain ⟨hi0, hi1⟩ := workerE_in h1
  rw [h1] at HE
  obtain ⟨k, x, rfl, hx, hk5⟩ := hs.worker hi0 hi1
  have hkl := (List.getElem?_eq_some_iff.1 hx).1
  obtain ⟨ls, l0, hls, -⟩ := hs.link hkl hkl
  have hlen := hs.lrow ls (List.mem_of_getElem? hls)
  have hwk : s.workers = (ls.length : Int) := by rw [← hs.len, hlen]
  have HS : Hid (tickS s k = (ls.foldl againS s, 0)) := by show _ = _; simp [tickS, h1, hls]
  obtain ⟨part, hF, hat⟩ := hr
  obtain ⟨kv, wv, lv, yv, vv, av, ps, rows, h⟩ := hat.opened
  have h5 := hs.five
  have hl5 : ls.length ≤ 5 := by have := hs.len; omega
  have HH := hid_of h
  have HF := hid_of hF
  have HHS := hid_of hs
  have HNN := hid_of hN
  have HLS := hid_of hls
  have HWK := hid_of hwk
  clear h hat hF h1 hs hN hls hwk hlen hx h5 hi0 hi1
  go_enter Tryz.func55, Tryz.ntmps55
  go_wp2_with (go_at_call 83; refine HE.out.mono ?_; rintro e w1 ⟨rfl, rfl⟩)
  go_loopw [6] (fun iv wr => ∃ (q : Nat) (part' : Nat → Nat) (yv' : Value), iv = .int .i64 (q : Int) ∧ q ≤ ls.length ∧ RefAtO part' wr B ((ls.take q).foldl againS s) kv wv lv yv' vv av ps rows ∧ Moved part part' w wr) (fun iv _ => ls.length - (intOf iv).toNat)
  case atStart => exact ⟨0, part, yv, rfl, Nat.zero_le _, HH.out, ⟨Kept.refl _ _, fun _ _ h => h⟩⟩
  case round =>
    obtain ⟨q, part', yv', rfl, hq, h, hm⟩ := hrel
    rename World => wr
    obtain ⟨y, hy, hy60⟩ := again_fold (ls.take q) s
    obtain ⟨s', hs'⟩ : ∃ s', (ls.take q).foldl againS s = s' := ⟨_, rfl⟩
    rw [hs'] at hy h
    have hlk : s'.links = s.links := by rw [hy]
    have hwk' : s'.workers = (ls.length : Int) := by rw [hy]; exact HWK.out
    have hway : s'.way.length ≤ 60 := by rw [hy]; exact hy60 HHS.out.way
    have b0 : wr.cell? ⟨B, 0, none⟩ = some (.int .i64 (ls.length : Int)) := by rw [← hwk']; exact h.box.cell (o := 0) rfl
    have HM := hid_of hm
    have HS' := hid_of hs'
    clear hm hy hy60 hwk'
    by_cases hlt : q < ls.length
    · obtain ⟨l, hl⟩ : ∃ l, ls[q]? = some l := ⟨_, List.getElem?_eq_getElem hlt⟩
      have hnext : (ls.take (q + 1)).foldl againS s = againS s' l := by
        rw [List.take_add_one, hl, List.foldl_append, HS'.out]; rfl
      have HNX := hid_of hnext
      obtain ⟨r, p, gl, lc, gr, rc, hr, hp, hlv, hr1, hgl, hgr, cl, cr, hir, hjr⟩ := h.ptrL (i := k) (j := q) (by rw [hlk]; exact HLS.out) hl
      subst hlv
      have hla := (h.lat k r ls hr (by rw [hlk]; exact HLS.out)).2.2 q p l hp hl
      have b7 : wr.cell? ⟨B, 7, none⟩ = some (.slice (some ⟨gl, 0, none⟩) rows.length lc) := h.box.cell (o := 7) rfl
      have i1 : (0 : Int) ≤ (k : Int) := by omega
      have i2 : (k : Int) < (rows.length : Int) := by omega
      have j1 : (0 : Int) ≤ (q : Int) := by omega
      have j2 : (q : Int) < (r.2.length : Int) := by omega
      have j3 : (q : Int) < (ls.length : Int) := by omega
      have hkn := HNN.out.known ls (List.mem_of_getElem? HLS.out) l (List.mem_of_getElem? hl)
      by_cases hopen : l.known < (l.all.length : Int)
      · obtain ⟨z, hz⟩ := Int.eq_ofNat_of_zero_le hkn
        obtain ⟨m, hmz⟩ : ∃ m, l.all[z]? = some m := ⟨_, List.getElem?_eq_getElem (by omega)⟩
        have HAG : Hid (againS s' l = wayS s' m) := by show _ = _; unfold againS; rw [if_pos hopen, hz]; simp [hmz]
        obtain ⟨ga, ac, kv', hqb, hga, hcm⟩ := hla.thing hmz
        have p1 : wr.cell? ⟨p, 1, none⟩ = some (.int .i64 (z : Int)) := by rw [← hz]; exact hqb.cell (o := 1) rfl
        have p0 : wr.cell? ⟨p, 0, none⟩ = some (.slice (some ⟨ga, 0, none⟩) l.all.length ac) := hqb.cell (o := 0) rfl
        have z1 : (z : Int) < (l.all.length : Int) := by omega
        have z2 : (0 : Int) ≤ (z : Int) := by omega
        have m0 : wr.cell? ⟨ga, z * 15, none⟩ = some (.int .i64 m.src) := hcm 0 _ rfl
        have m1 := hcm 1 _ rfl
        have m2 := hcm 2 _ rfl
        have m3 := hcm 3 _ rfl
        have m4 := hcm 4 _ rfl
        have m5 := hcm 5 _ rfl
        have m6 := hcm 6 _ rfl
        have m7 := hcm 7 _ rfl
        have m8 := hcm 8 _ rfl
        have m9 := hcm 9 _ rfl
        have m10 := hcm 10 _ rfl
        have m11 := hcm 11 _ rfl
        have m12 := hcm 12 _ rfl
        have m13 := hcm 13 _ rfl
        have m14 := hcm 14 _ rfl
        have HO : Hid (∀ U, Below wr.heap.size wr U → Calls Tryz.prog 97 #[.pointer (some ⟨B, 0, none⟩), .agg (msgCells m)] U fun e w' => ∃ v, e = .returned v ∧ (v = .tuple #[] ∧ ∃ part2 yv2, RefAtO part2 w' B (wayS s' m) kv wv (.slice (some ⟨gl, 0, none⟩) rows.length lc) yv2 vv av ps rows ∧ Moved part' part2 wr w')) := fun U hU => by
          obtain ⟨h9, hm9⟩ := h.later hU
          refine (ref_put_o m h9 (by omega)).mono ?_
          rintro e w' ⟨rfl, part2, yv2, h2, hm2⟩
          exact ⟨_, rfl, rfl, part2, yv2, h2, hm9.trans hm2⟩
        clear h hla hcm hz hopen hkn hqb
        clear hs' hnext
        go_upto_region 8 with fail
        go_quiet (fail)
        go_upto_region 9 with fail
        go_region_law (refine step_call2 (by rfl) 97 _ _ _ (by rfl) (.pointer (some ⟨B, 0, none⟩)) (.agg (msgCells m)) (by rfl) (by rfl) (enters_of Tryz.func97 (by kernel_rfl) rfl) (HO.out _ (by first | exact (belowDrewN (Below.refl _ _) _).drew | exact belowDrewN (Below.refl _ _) _)) ?_; rintro v9 w9 ⟨rfl, part2, yv2, h2, hm2⟩)
        all_goals
          go_wp2_with fail
          go_roundw
          case rel => exact ⟨q + 1, part2, yv2, by go_num, by omega, by rw [HNX.out, HAG.out]; exact h2, HM.out.trans hm2⟩
          case measure => simp [intOf]; omega
      · have HAG : Hid (againS s' l = s') := by show _ = _; unfold againS; rw [if_neg hopen]
        obtain ⟨av', kv', hqb, -, har, -⟩ := hla
        obtain ⟨aa, ac, haf⟩ := row_form har.1
        subst haf
        have p1 : wr.cell? ⟨p, 1, none⟩ = some (.int .i64 l.known) := hqb.cell (o := 1) rfl
        have p0 : wr.cell? ⟨p, 0, none⟩ = some (.slice aa l.all.length ac) := hqb.cell (o := 0) rfl
        have H2 := hid_of h
        clear h hqb har hs' hnext hkn
        go_upto_region 8 with fail
        go_quiet (fail)
        go_wp2_with fail
        obtain ⟨h9, hm9⟩ := H2.out.later (belowDrewN (Below.refl _ wr) nq)
        go_roundw
        case rel => exact ⟨q + 1, _, yv', by go_num, by omega, by rw [HNX.out, HAG.out]; exact h9, HM.out.trans hm9⟩
        case measure => simp [intOf]; omega
    · have hqe : q = ls.length := by omega
      have H2 := hid_of h
      have HQ := hid_of hqe
      have j3 : ¬ (q : Int) < (ls.length : Int) := by omega
      clear h hs' hqe
      go_wp2_with fail
      go_ret
      rw [HS.out]
      refine RefGives.of (s' := s') ?_ H2.out HM.out HF.out
      rw [← HS'.out, HQ.out, List.take_length]
end Go.Proofs.YtdbbejedipfckaaGreatDoor
