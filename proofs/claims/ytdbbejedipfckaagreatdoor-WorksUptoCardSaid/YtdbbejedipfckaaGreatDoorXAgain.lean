/-
  The messages that a worker has to send again, told one by one: the project's worker.again.
-/
import Derived.Test.YtdbbejedipfckaaGreatDoorRefDrop
import Derived.Test.YtdbbejedipfckaaGreatDoorXSend
import Derived.Test.YtdbbejedipfckaaGreatDoorRefTick
namespace Go.Proofs.YtdbbejedipfckaaGreatDoor
open Go Go.RowKit

attribute [local go_sem] Oper.semAt_some
theorem again_calls (g o : Nat) (w : World) : Calls Tryz.prog 141 #[.pointer (some ⟨g, o, none⟩)] w fun e w' => e = .returned (.func (.func 155) #[] #[.pointer (some ⟨w.heap.size, 0, none⟩)]) ∧ w' = w.alloc (Obj.cells #[.pointer (some ⟨g, o, none⟩)] 195) := by
  go_enter Tryz.func141, Tryz.ntmps141
  go_wp2_with fail
  go_ret
  exact ⟨rfl, rfl⟩
theorem oldestS_again (s : RunS) (l : LinkS) (h0 : 0 ≤ l.known) : againS s l = if (oldestS l).2 = true then wayS s (oldestS l).1 else s := by
  obtain ⟨z, hz⟩ := Int.eq_ofNat_of_zero_le h0
  unfold againS oldestS LinkS.left
  rw [hz]
  simp only [Int.toNat_natCast]
  by_cases h : z < l.all.length
  · rw [if_pos (by omega), List.drop_eq_getElem_cons h]
    simp [h]
  · rw [if_neg (by omega), List.drop_eq_nil_of_le (by omega)]
    simp
theorem links_same {s : RunS} {k j : Nat} {ls : List LinkS} {l : LinkS} (hls : s.links[k]? = some ls) (hl : ls[j]? = some l) : { s with links := s.links.set k (ls.set j l) } = s := by
  obtain ⟨h1, rfl⟩ := List.getElem?_eq_some_iff.1 hl
  rw [List.set_getElem_self]
  obtain ⟨h2, rfl⟩ := List.getElem?_eq_some_iff.1 hls
  rw [List.set_getElem_self]
set_option maxHeartbeats 8000000 in
set_option maxRecDepth 100000 in
theorem again1_calls (n l k Bq : Nat) (part : Nat → Nat) (w : World) (B M : Nat) (s : RunS) (kv yv : Value) (gw wc : Nat) (xs : List XW) (ls : List LinkS) (Z : Nat → Prop) (Rec : World → Prop) (h : XAtO part w B s kv (.slice (some ⟨gw, 0, none⟩) xs.length wc) yv M xs) (hls : s.links[k]? = some ls) (hkl : k < xs.length) (hkn : ∀ l ∈ ls, 0 ≤ l.known) (hall : ∀ l ∈ ls, l.all.length ≤ 100000000) (hy : s.way.length ≤ 60)
    (hZ : ∀ b, Z b → b < w.heap.size ∧ part b = 0) (hRec : ∀ A A', Rec A → Kept (fun b => ¬ Z b) A A' → Rec A') (h0 : Rec w) (hBq : BoxAt w Bq 195 #[.pointer (some ⟨gw, k * 4, none⟩)]) (hZq : Z Bq)
    (hY : ∀ s' part' yv' m W1, XAtO part' W1 B s' kv (.slice (some ⟨gw, 0, none⟩) xs.length wc) yv' M xs → Moved part part' w W1 → Rec W1 → s'.way.length ≤ 60 → YieldAt Fence.wide (n - 1) Tryz.prog l #[msgV m] W1 fun e W' => e = .returned (.bool true) ∧ ∃ part2 yv2, XAtO part2 W' B (wayS s' m) kv (.slice (some ⟨gw, 0, none⟩) xs.length wc) yv2 M xs ∧ Moved part part2 w W' ∧ Kept (fun b => Z b → b = l) W1 W' ∧ Rec W') (hlq : l ≠ Bq) :
    CallsIn Fence.wide n Tryz.prog 155 (#[.func (.yield l) #[] #[]] ++ #[.pointer (some ⟨Bq, 0, none⟩)]) w fun e W' => (∃ v, e = .returned v) ∧ (∃ part2 yv2, XAtO part2 W' B (ls.foldl againS s) kv (.slice (some ⟨gw, 0, none⟩) xs.length wc) yv2 M xs ∧ Moved part part2 w W') ∧ Rec W' := by
  obtain ⟨x, hx⟩ : ∃ x, xs[k]? = some x := ⟨_, List.getElem?_eq_getElem hkl⟩
  have hll : ls.length = xs.length := by rw [h.lrow ls (List.mem_of_getElem? hls), h.wlen]
  obtain ⟨g, gc, hvf⟩ : ∃ g gc, x.2.1 = .slice (some ⟨g, 0, none⟩) ls.length gc := by
    obtain ⟨qs, h1, h2, h3⟩ := h.lat k x ls hx hls
    obtain ⟨g, c, h4, -, -⟩ := World.ownsRow.form h1.1 (by omega)
    exact ⟨g, c, by rw [h4, h2]⟩
  have c1 : w.cell? ⟨gw, k * 4 + 1, none⟩ = some (.slice (some ⟨g, 0, none⟩) ls.length gc) := by
    have := h.wrow.1.cells (g := gw) rfl (k * 4 + 1) _ (flat_get (sz := 4) (enc := xwEnc) (fun _ => rfl) xs k x 1 _ hx rfl)
    rwa [addr_add, hvf] at this
  have q0 := hBq.cell (o := 0) rfl
  have hl5 : ls.length ≤ 5 := by rw [h.lrow ls (List.mem_of_getElem? hls)]; exact h.five
  have HH := hid_of h
  have HZ := hid_of hZ
  have HRC := hid_of hRec
  have HR0 := hid_of h0
  have HBQ := hid_of hBq
  have HYY := hid_of hY
  have HX : Hid (xs[k]? = some x) := hx
  have HLS : Hid (s.links[k]? = some ls) := hls
  have HVF : Hid (x.2.1 = .slice (some ⟨g, 0, none⟩) ls.length gc) := hvf
  -- a block that the run has no part in stays aside
  have HASIDE : Hid (∀ part' wr b, Moved part part' w wr → Z b → part' b = 0) := fun part' wr b hm hb => by
    rcases Nat.eq_zero_or_pos (part' b) with h | h
    · exact h
    · exact absurd (HZ.out b hb).2 (hm.old b (HZ.out b hb).1 (by omega))
  clear h hZ hRec h0 hBq hY hx hls hvf
  refine callsIn_of_wp Tryz.func155 rfl trivial ?_ rfl
  simp only [Tryz.ntmps155, List.size_toArray, List.length_cons, List.length_nil, Nat.reduceAdd, Nat.reduceSub, Array.replicate_succ, Array.replicate_zero, List.push_toArray, List.append_toArray, List.nil_append, List.cons_append]
  gi_wp2
  gi_loopw [12] (fun iv wr => ∃ (j : Nat) (part' : Nat → Nat) (yv' : Value), j ≤ ls.length ∧ iv = .int .i64 j ∧ XAtO part' wr B ((ls.take j).foldl againS s) kv (.slice (some ⟨gw, 0, none⟩) xs.length wc) yv' M xs ∧ Moved part part' w wr ∧ Rec wr ∧ BoxAt wr Bq 195 #[.pointer (some ⟨gw, k * 4, none⟩)]) (fun iv _ => ls.length - (intOf iv).toNat)
  case atStart => exact ⟨0, part, yv, Nat.zero_le _, rfl, HH.out, ⟨Kept.refl _ _, fun _ _ h => h⟩, HR0.out, HBQ.out⟩
  case round =>
    obtain ⟨j, part', yv', hj, rfl, h, hm, hrc, hbq⟩ := hrel
    rename World => wr
    obtain ⟨y9, hy9, hy60⟩ := again_fold (ls.take j) s
    obtain ⟨s', hs'⟩ : ∃ s', (ls.take j).foldl againS s = s' := ⟨_, rfl⟩
    rw [hs'] at hy9 h
    have hlk : s'.links = s.links := by rw [hy9]
    have hway : s'.way.length ≤ 60 := by rw [hy9]; exact hy60 hy
    have HM := hid_of hm
    have HRW := hid_of hrc
    have HBW := hid_of hbq
    have HX' := hid_of h
    have HS' : Hid ((ls.take j).foldl againS s = s') := hs'
    have HLK : Hid (s'.links = s.links) := hlk
    have HWAY : Hid (s'.way.length ≤ 60) := hway
    clear hm hrc hbq h hs' hy9 hy60 hlk hway c1 q0
    by_cases hlt : j < ls.length
    · obtain ⟨lk, hlk⟩ : ∃ lk, ls[j]? = some lk := ⟨_, List.getElem?_eq_getElem hlt⟩
      have hmem := List.mem_of_getElem? hlk
      have HNX : Hid ((ls.take (j + 1)).foldl againS s = againS s' lk) := by
        show _ = _
        rw [List.take_add_one, hlk, List.foldl_append, HS'.out]; rfl
      obtain ⟨qs, hqr, hql, hqe⟩ := HX'.out.lat k x ls HX.out (by rw [HLK.out]; exact HLS.out)
      rw [HVF.out] at hqr
      obtain ⟨oq, hoq⟩ : ∃ q, qs[j]? = some q := ⟨_, List.getElem?_eq_getElem (by omega)⟩
      have hend := hqe j oq lk hoq hlk
      have cj : wr.cell? ⟨g, j, none⟩ = some (.pointer (oq.map (fun b => (⟨b, 0, none⟩ : Addr)))) := by
        have := hqr.1.cells (g := g) rfl (j * 1 + 0) _ (flat_get (sz := 1) (enc := optEnc) (fun _ => rfl) qs j oq 0 _ hoq rfl)
        rw [addr_add] at this
        simpa using this
      have j1 : (0 : Int) ≤ (j : Int) := by omega
      have j2 : (j : Int) < (ls.length : Int) := by omega
      have HKN := hid_of (hkn lk hmem)
      have HALL := hid_of (hall lk hmem)
      cases oq with
      | none =>
        have HAG : Hid (againS s' lk = s') := by
          show _ = _
          unfold againS
          rw [if_neg (by rw [hend.2]; simp; exact HKN.out)]
        simp only [Option.map_none] at cj
        clear hqr hqe hend hlk
        gi_wp2
        go_roundw
        case rel => exact ⟨j + 1, part', yv', by omega, by go_num, by rw [HNX.out, HAG.out]; exact HX'.out, HM.out, HRW.out, HBW.out⟩
        case measure => simp [intOf]; omega
      | some q =>
        obtain ⟨hjk, hout⟩ := hend
        simp only [Option.map_some] at cj
        have HQR := hid_of hqr
        have HQE := hid_of hqe
        have HOUT : Hid (OutAt (fun b => part' b = 100 + 10 * k + j ∧ b < wr.heap.size) wr q lk) := hout.kept (Kept.refl (fun _ => False) wr) (fun b hb h => ⟨fun h => h, h, hb⟩)
        have HLKJ : Hid (ls[j]? = some lk) := hlk
        have HOQ : Hid (qs[j]? = some (some q)) := hoq
        have HQL : Hid (qs.length = ls.length) := hql
        clear hqr hqe hout hlk hoq hql
        gi_wp2
        refine ⟨trivial, fun h => (by cases h), ?_⟩
        refine callsIn_wide.2 ?_
        refine (oldest_out _ q lk wr HOUT.out HALL.out).mono ?_
        rintro e w2 ⟨v2, rfl, rfl, ho2, hk2'⟩
        have hk2 : Kept (fun b => part' b = 100 + 10 * k + j) wr w2 := hk2'.mono (fun b _ h => h.1)
        obtain ⟨h3, hm3⟩ := HX'.out.relink (l' := lk) HX.out (by rw [HLK.out]; exact HLS.out) hjk (by rw [HVF.out]; exact HQR.out) HQL.out HQE.out HOQ.out hk2 ho2
        rw [links_same (by rw [HLK.out]; exact HLS.out) HLKJ.out] at h3
        obtain ⟨part3, hp3⟩ : ∃ p, p = ext wr part' (100 + 10 * k + j) := ⟨_, rfl⟩
        rw [← hp3] at h3 hm3
        have hM3 := HM.out.trans hm3
        have hz3 : Kept (fun b => ¬ Z b) wr w2 := hk2.mono (fun b _ e hb => by have := HASIDE.out part' wr b HM.out hb; omega)
        have hr3 := HRC.out _ _ HRW.out hz3
        have hb3 := HBW.out.kept hz3 (fun h => h hZq)
        have HX3 := hid_of h3
        have HM3 := hid_of hM3
        have HR3 := hid_of hr3
        have HB3 := hid_of hb3
        have HAG := hid_of (oldestS_again s' lk HKN.out)
        obtain ⟨om, hom⟩ : ∃ om, (oldestS lk).1 = om := ⟨_, rfl⟩
        obtain ⟨ob, hob⟩ : ∃ ob, (oldestS lk).2 = ob := ⟨_, rfl⟩
        rw [hom, hob] at HAG
        rw [hom, hob]
        obtain ⟨U, hU⟩ : ∃ U, w2.alloc (Obj.cells (msgCells om) 139) = U := ⟨_, rfl⟩
        have gU : Below w2.heap.size w2 U := by rw [← hU]; exact (Below.refl _ _).alloc (Nat.le_refl _) _
        have bU : BoxAt U w2.heap.size 139 (msgCells om) := by rw [← hU]; exact BoxAt.new w2 _ _
        obtain ⟨h4, hm4⟩ := HX3.out.later gU
        have kU : Kept (fun b => ¬ Z b) w2 U := Kept.of_below gU (fun b h1 h2 => absurd h1 (by omega))
        have HX4 := hid_of h4
        have HM4 := hid_of (HM3.out.trans hm4)
        have HR4 := hid_of (HRC.out _ _ HR3.out kU)
        have HB4 := hid_of (HB3.out.kept kU (fun h => h hZq))
        clear h3 hm3 hM3 hz3 hr3 hb3 hp3 ho2 hk2 hk2' hom hob h4 hm4 kU gU cj HOUT HQR HQE
        cases ob with
        | false =>
          have HAF : Hid (againS s' lk = s') := HAG.out.trans (if_neg (by simp))
          clear bU
          gi_wp2
          refine ⟨(fun f hf => by cases hf), ?_⟩
          gi_wp2
          go_roundw
          case rel => exact ⟨j + 1, _, _, by omega, by go_num, by rw [HNX.out, HAF.out]; exact HX4.out, HM4.out, HR4.out, HB4.out⟩
          case measure => simp [intOf]; omega
        | true =>
          have HAT : Hid (againS s' lk = wayS s' om) := HAG.out.trans (if_pos rfl)
          have m0 := bU.cell (o := 0) rfl
          have m1 := bU.cell (o := 1) rfl
          have m2 := bU.cell (o := 2) rfl
          have m3 := bU.cell (o := 3) rfl
          have m4 := bU.cell (o := 4) rfl
          have m5 := bU.cell (o := 5) rfl
          have m6 := bU.cell (o := 6) rfl
          have m7 := bU.cell (o := 7) rfl
          have m8 := bU.cell (o := 8) rfl
          have m9 := bU.cell (o := 9) rfl
          have m10 := bU.cell (o := 10) rfl
          have m11 := bU.cell (o := 11) rfl
          have m12 := bU.cell (o := 12) rfl
          have m13 := bU.cell (o := 13) rfl
          have m14 := bU.cell (o := 14) rfl
          obtain ⟨fn, tmps, assign, body, hyy, hR⟩ := HYY.out s' _ _ om U HX4.out HM4.out HR4.out HWAY.out
          have HR := hid_of hR
          clear hR bU
          gi_wp2
          refine ⟨fun h => (by cases h), ?_⟩
          refine HR.out.mono ?_
          rintro e W4 ⟨rfl, part5, yv5, h5, hm5, hk5, hr5⟩
          have HX5 := hid_of h5
          have HM5 := hid_of hm5
          have HR5 := hid_of hr5
          have HB5 := hid_of (HB4.out.kept hk5 (fun h => hlq (h hZq).symm))
          clear h5 hm5 hr5 hk5
          gi_wp2
          go_roundw
          case rel => exact ⟨j + 1, part5, yv5, by omega, by go_num, by rw [HNX.out, HAT.out]; exact HX5.out, HM5.out, HR5.out, HB5.out⟩
          case measure => simp [intOf]; omega
    · obtain rfl : j = ls.length := by omega
      gi_wp2
      go_end0
      refine ⟨⟨_, rfl⟩, ⟨part', yv', ?_, HM.out⟩, HRW.out⟩
      have := HS'.out
      rw [List.take_length] at this
      rw [this]
      exact HX'.out
end Go.Proofs.YtdbbejedipfckaaGreatDoor
