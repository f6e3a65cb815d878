import Derived.Test.YteahdfeialekbaaGreatDoorBegun
import Derived.Test.YteahdfeialekbaaGreatDoorScript
import Derived.Deep.AppendLies
import Derived.Test.YteahdfeialekbaaGreatDoorLinkOn
namespace Go.Proofs.YteahdfeialekbaaGreatDoor
open Go Go.RowKit
set_option maxHeartbeats 8000000 in
set_option maxRecDepth 100000 in
theorem holds_calls (last : Int) (hla : last = 3 \/ last = 8 \/ last = 9) (a : Option Addr) (cap : Nat) (l : List OpS) (w : World) (hs : ScriptAt w a l) (hl : l.length <= 170000) :
  Calls Tryz.prog 9 #[.slice a l.length cap, .int .i64 last] w fun e w' => e = .returned (.bool true) /\ Below w.heap.size w w' := by
 obtain ⟨iT, hiT, hzT0, hzT1, hzT2⟩ := info_parts infoTwin
 have HS : Hid (∀ U, Below w.heap.size w U -> ScriptAt U a l) := fun U hU => hs.later hU
 have HLA := hid_of hla
 have hl1 : 1 <= last := by omega
 clear hs hla
 go_enter Tryz.func9, Tryz.ntmps9
 go_wp2_with (go_at_call 17; refine (begun_calls w).mono ?_; rintro e w1 ⟨rfl, hb1⟩)
 have s1 := hb1.size
 have HT0 := hid_of (TwinsAt.start w.heap.size w1 s1)
 have HB0 : Hid (Below w.heap.size w (w1.alloc (Obj.cells #[.int .i64 0, .int .i64 0, .bool false, .slice none 0 0, .slice none 0 0, .slice none 0 0, .slice none 0 0, .slice none 0 0, .slice none 0 0, .slice none 0 0] 56))) := hb1.alloc s1 _
 obtain ⟨Bb, hBb⟩ : ∃ Bb, w1.heap.size = Bb := ⟨_, rfl⟩
 obtain ⟨W0, hW0⟩ : ∃ W0, w1.alloc (Obj.cells #[.int .i64 0, .int .i64 0, .bool false, .slice none 0 0, .slice none 0 0, .slice none 0 0, .slice none 0 0, .slice none 0 0, .slice none 0 0, .slice none 0 0] 56) = W0 := ⟨_, rfl⟩
 rw [hBb, hW0] at HT0
 rw [hW0] at HB0
 rw [hBb, hW0]
 clear hBb hW0 hb1 s1
 go_loopw [6, 8] (fun tv ii wr => ∃ (k : Nat) (own : Nat -> Nat) (tw : List (Option Addr × Option Addr)) (ta : Option Addr) (tc N came : Nat), k <= l.length /\ ii = .int .i64 k /\ tv = .slice ta tw.length tc /\ Below w.heap.size w wr /\ TwinsAt w.heap.size own wr (.slice ta tw.length tc) tw Bb N came k) (fun _ ii _ => l.length - (intOf ii).toNat)
 case atStart => exact ⟨0, _, [], none, 0, 0, 0, Nat.zero_le _, rfl, rfl, HB0.out, HT0.out⟩
 case round =>
  obtain ⟨k, own, tw, ta, tc, N, came, hk, rfl, rfl, hbw, htw⟩ := hrel
  rename World => wr
  clear HT0 HB0
  have HBW := hid_of hbw
  have HTW := hid_of htw
  have sw := hbw.size
  have htn := htw.few
  clear hbw htw
  by_cases hlt : k < l.length
  ·obtain ⟨x, hx⟩ : ∃ x, l[k]? = some x := ⟨_, List.getElem?_eq_getElem hlt⟩
   obtain ⟨hf, g, o, hag, hgl, ka, kc, hc, hkn⟩ := HS.out wr HBW.out k x hx
   obtain ⟨kk, r, W, V, i, b, c, wk, rm, md, ks, pk, pa⟩ := x
   dsimp only at hc hkn
   subst hag
   have HF := hid_of hf
   have HKN := hid_of hkn
   have y0 := hc 0 _ rfl
   rw [Nat.add_zero] at y0
   have y1 := hc 1 _ rfl
   have y2 := hc 2 _ rfl
   have y3 := hc 3 _ rfl
   have y4 := hc 4 _ rfl
   have y5 := hc 5 _ rfl
   have y6 := hc 6 _ rfl
   have y7 := hc 7 _ rfl
   have y8 := hc 8 _ rfl
   have y9 := hc 9 _ rfl
   have y10 := hc 10 _ rfl
   have y11 := hc 11 _ rfl
   have y12 := hc 12 _ rfl
   have i1 : (0 : Int) <= (k : Int) := by omega
   have i2 : (k : Int) < (l.length : Int) := by omega
   clear hc hkn hx hf
   go_upto_region 11 with fail
   obtain ⟨W1, hW1⟩ : ∃ W1, wr.alloc (Obj.cells (opV kk r W V i b c wk rm md (.slice ka ks.length kc) pk pa) 58) = W1 := ⟨_, rfl⟩
   have HO1 : Hid (BoxAt W1 wr.heap.size 58 (opV kk r W V i b c wk rm md (.slice ka ks.length kc) pk pa)) := by show BoxAt _ _ _ _; rw [<- hW1]; exact BoxAt.new wr _ _
   have hb1 : Below wr.heap.size wr W1 := by rw [<- hW1]; exact (Below.refl _ _).alloc (Nat.le_refl _) _
   have S1 : Hid (W1.heap.size = wr.heap.size + 1) := by show _ = _; rw [<- hW1]; simp
   rw [hW1]
   clear hW1 y0 y1 y2 y3 y4 y5 y6 y7 y8 y9 y10 y11 y12 i1 i2
   obtain ⟨own1, ht1⟩ : ∃ own1, TwinsAt w.heap.size own1 W1 (.slice ta tw.length tc) tw Bb N came k := ⟨_, HTW.out.later hb1⟩
   have HT1 := hid_of ht1
   have HB1 : Hid (Below w.heap.size w W1) := HBW.out.trans (hb1.mono sw)
   clear ht1
   have o0 := HO1.out.cell (o := 0) rfl
   have hcase : last < kk \/ kk = 1 \/ (kk <= last /\ kk ≠ 1 /\ tw.length = 0) \/ (kk = 3 /\ kk <= last /\ tw.length ≠ 0) \/ (kk = 5 /\ kk <= last /\ tw.length ≠ 0) \/ (Changing kk /\ kk <= last /\ tw.length ≠ 0) \/ (kk <= 0 /\ kk <= last /\ tw.length ≠ 0) := by
    have := HLA.out
    unfold Changing
    omega
   rcases hcase with h3 | rfl | ⟨h31, h32, h0⟩ | ⟨rfl, h31, h0⟩ | ⟨rfl, h31, h0⟩ | ⟨hch, h31, h0⟩ | ⟨h32, h31, h0⟩
   ·
    have HT9 := hid_of (HT1.out.next (i' := k + 1) (by omega))
    have HB9 := HB1
    have TW9 : True := trivial
    go_wp2_with (go_at_call 23; refine (stillB_calls _ Bb N came W1 HT9.out.books (by have := HT9.out.hN; omega)).mono ?_; rintro e w10 ⟨rfl, hb10⟩)
    go_roundw
    case rel => exact ⟨k + 1, _, tw, ta, tc, N, came, by omega, by go_num, by first | rfl | (simp; done) | (simp [h0]; done), HB9.out.trans (hb10.mono HB9.out.size), HT9.out.later hb10⟩
    case measure => simp [intOf]; omega
   ·
    have bo := HO1.out
    have o1 := bo.cell (o := 1) rfl
    have o2 := bo.cell (o := 2) rfl
    have o3 := bo.cell (o := 3) rfl
    have o4 := bo.cell (o := 4) rfl
    have o5 := bo.cell (o := 5) rfl
    have o6 := bo.cell (o := 6) rfl
    have o7 := bo.cell (o := 7) rfl
    have o8 := bo.cell (o := 8) rfl
    have o9 := bo.cell (o := 9) rfl
    have o10 := bo.cell (o := 10) rfl
    have o11 := bo.cell (o := 11) rfl
    have o12 := bo.cell (o := 12) rfl
    clear bo
    have HMD : Hid (Calls Tryz.prog 18 #[.agg (opV 1 r W V i b c wk rm md (.slice ka ks.length kc) pk pa)] W1 fun e w' => ∃ xp wp, e = .returned (.tuple #[.agg #[.pointer xp, .pointer wp], .bool true]) /\ TwinAt (fun g => W1.heap.size <= g) w' xp wp 0 /\ Below W1.heap.size W1 w') := made_calls 1 r W V i b c wk rm md pk pa ka kc ks W1 (HKN.out.later hb1) HF.out.2.2.2.2.2.2.1 HF.out.2.2.2.2.2.2.2
    go_upto_region 14 with (go_at_call 18; refine HMD.out.mono ?_; rintro e w2 ⟨xp, wp, rfl, ht2, hb2⟩)
    have HP2 := hid_of ht2
    have HB2 := hid_of hb2
    have s2 := hb2.size
    clear o0 o1 o2 o3 o4 o5 o6 o7 o8 o9 o10 o11 o12 ht2 hb2 HMD
    obtain ⟨W3, hW3⟩ : ∃ W3, w2.alloc (Obj.cells #[.pointer xp, .pointer wp] 61) = W3 := ⟨_, rfl⟩
    have b3 : BoxAt W3 w2.heap.size 61 #[.pointer xp, .pointer wp] := by rw [<- hW3]; exact BoxAt.new w2 _ _
    have hb23 : Below w2.heap.size w2 W3 := by rw [<- hW3]; exact (Below.refl _ _).alloc (Nat.le_refl _) _
    have S3 : Hid (W3.heap.size = w2.heap.size + 1) := by show _ = _; rw [<- hW3]; simp
    rw [hW3]
    clear hW3
    have p0 := b3.cell (o := 0) rfl
    have p1 := b3.cell (o := 1) rfl
    have hb34 : Below W3.heap.size W3 (W3.alloc (Obj.cells #[.pointer xp, .pointer wp] 61)) := (Below.refl _ _).alloc (Nat.le_refl _) _
    have hb14 : Below W1.heap.size W1 (W3.alloc (Obj.cells #[.pointer xp, .pointer wp] 61)) := (HB2.out.trans (hb23.mono s2)).trans (hb34.mono (by have := S3.out; omega))
    have HR4 := hid_of (row_later HT1.out.row hb14)
    have HB14 := hid_of hb14
    have HP4 : Hid (TwinAt (fun g => W1.heap.size <= g /\ g < (W3.alloc (Obj.cells #[.pointer xp, .pointer wp] 61)).heap.size) (W3.alloc (Obj.cells #[.pointer xp, .pointer wp] 61)) xp wp 0) := HP2.out.kept (Kept.of_below (hb23.trans (hb34.mono (by have := S3.out; omega))) (X := fun b => w2.heap.size <= b) (fun _ _ h => h)) (fun g hg h => ⟨by omega, h, by have := S3.out; simp; omega⟩) (Nat.le_refl _)
    have HBASE : Hid (w.heap.size <= (W3.alloc (Obj.cells #[.pointer xp, .pointer wp] 61)).heap.size) := Nat.le_trans HB1.out.size hb14.size
    clear b3 hb23 hb34 hb14
    go_upto_region 15 with (at_builtin; refine wpList_append_lies _ rfl _ _ _ rfl w.heap.size 61 iT _ 2 16 Tryz.underlying50 hiT hzT0 hzT1 hzT2 rfl (by omega) (Value.slice ta tw.length tc) tw.length (tw.flatMap twinEnc) rfl HR4.out ⟨W3.heap.size, 0, none⟩ 1 1 [.pointer xp, .pointer wp] rfl rfl (World.news_of_block (cs := #[.pointer xp, .pointer wp]) (t := 61) (fr := (0, 0)) (heap_alloc_new W3 _)) (by simp [Value.oneCell']) (by omega) (by unfold maxLen; omega) (by omega) HBASE.out (W3.heap.size + 1) (by simp) ?_; intro g5 c5 W9 hown5 hgrow5 hat5 hg5)
    have HK5 : Hid (Kept (fun b => (Value.slice ta tw.length tc).ownBlock = some b) (W3.alloc (Obj.cells #[.pointer xp, .pointer wp] 61)) W9) := Kept.grown hgrow5 (fun r e => e)
    obtain ⟨own9, ht9⟩ : ∃ own9, TwinsAt w.heap.size own9 W9 (.slice (some ⟨g5, 0, none⟩) (tw ++ [(xp, wp)]).length c5) (tw ++ [(xp, wp)]) Bb N came (k + 1) := by
     have hlen : (tw ++ [(xp, wp)]).length = tw.length + 1 := by simp
     have hfl : (tw ++ [(xp, wp)]).flatMap twinEnc = tw.flatMap twinEnc ++ [.pointer xp, .pointer wp] := by simp [twinEnc]
     refine ⟨_, HT1.out.added HB1.out.size HB14.out HP4.out HK5.out ?_ (fun g e => ?_)⟩
     ·rw [hlen, hfl]; exact hown5
     ·simp [Value.ownBlock] at e
      subst e
      rcases hat5 with h | h
      ·exact .inl h
      ·exact .inr (by rw [h]; simp)
    have HB9 : Hid (Below w.heap.size w W9) := (HB1.out.trans (HB14.out.mono HB1.out.size)).trans (HK5.out.below (by have := HB1.out.size; have := HB14.out.size; omega) (fun g e => (HT1.out.row.lt g e).1))
    have HT9 := hid_of ht9
    clear p0 p1 ht9 hown5 hgrow5 hat5 hg5 HR4 HP4 HK5
    have TW9 : True := trivial
    go_wp2_with (go_at_call 23; refine (stillB_calls _ Bb N came W9 HT9.out.books (by have := HT9.out.hN; omega)).mono ?_; rintro e w10 ⟨rfl, hb10⟩)
    go_roundw
    case rel => exact ⟨k + 1, _, (tw ++ [(xp, wp)]), some ⟨g5, 0, none⟩, c5, N, came, by omega, by go_num, by first | rfl | (simp; done) | (simp [h0]; done), HB9.out.trans (hb10.mono HB9.out.size), HT9.out.later hb10⟩
    case measure => simp [intOf]; omega
   ·
    have hk1 : (kk == 1) = false := by rw [beq_eq_false_iff_ne]; omega
    have hz : ((tw.length : Int) == 0) = true := by rw [beq_iff_eq]; omega
    have HT9 := hid_of (HT1.out.next (i' := k + 1) (by omega))
    have HB9 := HB1
    have TW9 : True := trivial
    go_wp2_with (go_at_call 23; refine (stillB_calls _ Bb N came W1 HT9.out.books (by have := HT9.out.hN; omega)).mono ?_; rintro e w10 ⟨rfl, hb10⟩)
    go_roundw
    case rel => exact ⟨k + 1, _, tw, ta, tc, N, came, by omega, by go_num, by first | rfl | (simp; done) | (simp [h0]; done), HB9.out.trans (hb10.mono HB9.out.size), HT9.out.later hb10⟩
    case measure => simp [intOf]; omega
   ·
    have hn1 : 0 < tw.length := by omega
    have hnz : ((tw.length : Int) == 0) = false := by rw [beq_eq_false_iff_ne]; omega
    obtain ⟨g6, cap6, hgf, hg61, hg62⟩ := World.ownsRow.form HT1.out.row hn1
    cases hgf
    have hpr := pickS_range r tw.length (by omega)
    obtain ⟨m, hm⟩ : ∃ m : Nat, pickS r tw.length = (m : Int) := ⟨(pickS r tw.length).toNat, by omega⟩
    have hmt : m < tw.length := by omega
    obtain ⟨p, hp⟩ : ∃ p, tw[m]? = some p := ⟨_, List.getElem?_eq_getElem hmt⟩
    obtain ⟨z0, z1⟩ := twins_get tw m p hp
    have hcell : ∀ j u, (tw.flatMap twinEnc)[j]? = some u -> W1.cell? ⟨g6, j, none⟩ = some u := fun j u hj => by
     have h1 := HT1.out.row.cells (g := g6) rfl j u hj
     rw [Addr.add_lit, Nat.zero_add] at h1
     exact h1
    have c0 := hcell _ _ z0
    have c1 := hcell _ _ z1
    obtain ⟨xp, wp⟩ := p
    dsimp only at c0 c1
    have HTP := hid_of (HT1.out.each m _ hp)
    have HM := hid_of hp
    have HPK : Hid (Calls Tryz.prog 19 #[.int .i64 r, .int .i64 tw.length] W1 fun e w' => e = .returned (.int .i64 (m : Int)) /\ W1 = w') := (lpick_calls r tw.length HF.out.1 (by omega) W1).mono fun e w' h => ⟨by rw [h.1, hm], h.2.symm⟩
    have m1 : (0 : Int) <= (m : Int) := by omega
    have m2 : (m : Int) < (tw.length : Int) := by omega
    clear z0 z1 hcell hpr hm hp
    have o1 := HO1.out.cell (o := 1) rfl
    go_upto_region 19 with (go_at_call 19; refine HPK.out.mono ?_; rintro e w2 ⟨rfl, rfl⟩)
    obtain ⟨W2, hW2⟩ : ∃ W2, W1.alloc (Obj.cells #[.pointer xp, .pointer wp] 61) = W2 := ⟨_, rfl⟩
    have HP2 : Hid (BoxAt W2 W1.heap.size 61 #[.pointer xp, .pointer wp]) := by show BoxAt _ _ _ _; rw [<- hW2]; exact BoxAt.new W1 _ _
    have hb12 : Below W1.heap.size W1 W2 := by rw [<- hW2]; exact (Below.refl _ _).alloc (Nat.le_refl _) _
    have S2 : Hid (W2.heap.size = W1.heap.size + 1) := by show _ = _; rw [<- hW2]; simp
    rw [hW2]
    clear hW2 c0 c1 o0 o1 HPK
    have HO2 : Hid (BoxAt W2 wr.heap.size 58 (opV 3 r W V i b c wk rm md (.slice ka ks.length kc) pk pa)) := HO1.out.below hb12 (by have := S1.out; omega)
    have HB2 : Hid (Below w.heap.size w W2) := HB1.out.trans (hb12.mono HB1.out.size)
    obtain ⟨own2, ht2⟩ : ∃ own2, TwinsAt w.heap.size own2 W2 (.slice (some ⟨g6, 0, none⟩) tw.length tc) tw Bb N came k := ⟨_, HT1.out.later hb12⟩
    have HT2 := hid_of ht2
    have HTM : Hid (∀ U, Below W2.heap.size W2 U -> Calls Tryz.prog 21 #[.agg #[.pointer xp, .pointer wp], .agg (opV 3 r W V i b c wk rm md (.slice ka ks.length kc) pk pa)] U fun e w' => ∃ v, e = .returned v /\ ∃ W' V' i', v = .agg (opV 3 r W' V' i' b c wk rm md (.slice ka ks.length kc) pk pa) /\ w'.cell? ⟨W1.heap.size, 0, none⟩ = some (.pointer xp) /\ w'.cell? ⟨W1.heap.size, 1, none⟩ = some (.pointer wp) /\ Below W2.heap.size W2 w') := fun U hU => by
     refine (tamed_calls (fun g => own2 g = 3 + m) xp wp k 3 r W V i b c wk rm md pk pa ka ks.length kc U ((HT2.out.each m _ HM.out).kept (Kept.of_below hU (X := fun b => W2.heap.size <= b) (fun _ _ h => h)) (fun g hg h => ⟨by omega, h⟩) (Nat.le_refl _)) HF.out.2.1 HF.out.2.2.1 HF.out.2.2.2.1 HF.out.2.2.2.2.1 HF.out.2.2.2.2.2.1).mono ?_
     rintro e w' ⟨W', V', i', rfl, hb'⟩
     have hUw : Below W2.heap.size W2 w' := hU.trans (hb'.mono hU.size)
     have hpb := HP2.out.below hUw (by have := S2.out; omega)
     exact ⟨_, rfl, W', V', i', rfl, hpb.cell rfl, hpb.cell rfl, hUw⟩
    have HAS : Hid (∀ U W' V' i', Below W2.heap.size W2 U -> Calls Tryz.prog 20 #[.agg #[.pointer xp, .pointer wp], .pointer (some ⟨Bb, 0, none⟩), .agg (opV 3 r W' V' i' b c wk rm md (.slice ka ks.length kc) pk pa)] U fun e w' => ∃ v, e = .returned v /\ v = .bool true /\ (∃ own9 N9 came9, TwinsAt w.heap.size own9 w' (.slice (some ⟨g6, 0, none⟩) tw.length tc) tw Bb N9 came9 (k + 1)) /\ Below w.heap.size w w') := fun U W' V' i' hU => by
     have hTU := HT2.out.later hU
     refine (asks_calls _ _ xp wp k Bb N came (by have := HT2.out.hN; omega) (by have := HT2.out.hcm; omega) r W' V' i' b c wk rm md pk pa ka ks.length kc U (hTU.each m _ HM.out) hTU.books).mono ?_
     rintro e w' ⟨rfl, ⟨N', hN', hbk⟩, hk'⟩
     have hwU : Below w.heap.size w U := HB2.out.trans (hU.mono HB2.out.size)
     exact ⟨_, rfl, rfl, ⟨_, N', came + 1, hTU.asked hwU.size hk' hN' hbk⟩, hwU.trans (hk'.below hwU.size (fun g h => hTU.new g (by omega)))⟩
    have bo := HO2.out
    have o0 := bo.cell (o := 0) rfl
    have o1 := bo.cell (o := 1) rfl
    have o2 := bo.cell (o := 2) rfl
    have o3 := bo.cell (o := 3) rfl
    have o4 := bo.cell (o := 4) rfl
    have o5 := bo.cell (o := 5) rfl
    have o6 := bo.cell (o := 6) rfl
    have o7 := bo.cell (o := 7) rfl
    have o8 := bo.cell (o := 8) rfl
    have o9 := bo.cell (o := 9) rfl
    have o10 := bo.cell (o := 10) rfl
    have o11 := bo.cell (o := 11) rfl
    have o12 := bo.cell (o := 12) rfl
    have bp := HP2.out
    have p0 := bp.cell (o := 0) rfl
    have p1 := bp.cell (o := 1) rfl
    clear bo bp ht2 hb12
    go_region_law (first
     | (refine step_call2 (by rfl) 21 _ _ _ (by rfl) (.agg #[.pointer xp, .pointer wp]) (.agg (opV 3 r W V i b c wk rm md (.slice ka ks.length kc) pk pa)) (by rfl) (by rfl) (enters_of Tryz.func21 (by kernel_rfl) rfl) (HTM.out _ (by first | exact Below.refl _ _ | exact (Below.refl _ _).drew)) ?_; rintro v8 w8 ⟨W', V', i', rfl, q0, q1, hb8⟩)
     | (refine step_call3 (by rfl) 20 _ _ _ _ (by rfl) (.agg #[.pointer xp, .pointer wp]) (.pointer (some ⟨Bb, 0, none⟩)) (.agg (opV 3 r W' V' i' b c wk rm md (.slice ka ks.length kc) pk pa)) (by rfl) (by rfl) (by rfl) (enters_of Tryz.func20 (by kernel_rfl) rfl) (HAS.out _ W' V' i' (by first | assumption | exact Below.drew (by assumption))) ?_; rintro v9 w9 ⟨rfl, hx9, hb9⟩))
    all_goals
     obtain ⟨own9, N9, came9, ht9⟩ := hx9
     have HT9 := hid_of ht9
     have HB9 := hid_of hb9
     clear ht9 hb9 o0 o1 o2 o3 o4 o5 o6 o7 o8 o9 o10 o11 o12 p0 p1 HTM HAS
     have TW9 : True := trivial
     go_wp2_with (go_at_call 23; refine (stillB_calls _ Bb N9 came9 w9 HT9.out.books (by have := HT9.out.hN; omega)).mono ?_; rintro e w10 ⟨rfl, hb10⟩)
     go_roundw
     case rel => exact ⟨k + 1, _, tw, some ⟨g6, 0, none⟩, tc, N9, came9, by omega, by go_num, by first | rfl | (simp; done) | (simp [h0]; done), HB9.out.trans (hb10.mono HB9.out.size), HT9.out.later hb10⟩
     case measure => simp [intOf]; omega
   ·
    have hn1 : 0 < tw.length := by omega
    have hnz : ((tw.length : Int) == 0) = false := by rw [beq_eq_false_iff_ne]; omega
    obtain ⟨g6, cap6, hgf, hg61, hg62⟩ := World.ownsRow.form HT1.out.row hn1
    cases hgf
    have hpr := pickS_range r tw.length (by omega)
    obtain ⟨m, hm⟩ : ∃ m : Nat, pickS r tw.length = (m : Int) := ⟨(pickS r tw.length).toNat, by omega⟩
    have hmt : m < tw.length := by omega
    obtain ⟨p, hp⟩ : ∃ p, tw[m]? = some p := ⟨_, List.getElem?_eq_getElem hmt⟩
    obtain ⟨z0, z1⟩ := twins_get tw m p hp
    have hcell : ∀ j u, (tw.flatMap twinEnc)[j]? = some u -> W1.cell? ⟨g6, j, none⟩ = some u := fun j u hj => by
     have h1 := HT1.out.row.cells (g := g6) rfl j u hj
     rw [Addr.add_lit, Nat.zero_add] at h1
     exact h1
    have c0 := hcell _ _ z0
    have c1 := hcell _ _ z1
    obtain ⟨xp, wp⟩ := p
    dsimp only at c0 c1
    have HTP := hid_of (HT1.out.each m _ hp)
    have HM := hid_of hp
    have HPK : Hid (Calls Tryz.prog 19 #[.int .i64 r, .int .i64 tw.length] W1 fun e w' => e = .returned (.int .i64 (m : Int)) /\ W1 = w') := (lpick_calls r tw.length HF.out.1 (by omega) W1).mono fun e w' h => ⟨by rw [h.1, hm], h.2.symm⟩
    have m1 : (0 : Int) <= (m : Int) := by omega
    have m2 : (m : Int) < (tw.length : Int) := by omega
    clear z0 z1 hcell hpr hm hp
    have o1 := HO1.out.cell (o := 1) rfl
    go_upto_region 19 with (go_at_call 19; refine HPK.out.mono ?_; rintro e w2 ⟨rfl, rfl⟩)
    obtain ⟨W2, hW2⟩ : ∃ W2, W1.alloc (Obj.cells #[.pointer xp, .pointer wp] 61) = W2 := ⟨_, rfl⟩
    have HP2 : Hid (BoxAt W2 W1.heap.size 61 #[.pointer xp, .pointer wp]) := by show BoxAt _ _ _ _; rw [<- hW2]; exact BoxAt.new W1 _ _
    have hb12 : Below W1.heap.size W1 W2 := by rw [<- hW2]; exact (Below.refl _ _).alloc (Nat.le_refl _) _
    have S2 : Hid (W2.heap.size = W1.heap.size + 1) := by show _ = _; rw [<- hW2]; simp
    rw [hW2]
    clear hW2 c0 c1 o0 o1 HPK
    have HO2 : Hid (BoxAt W2 wr.heap.size 58 (opV 5 r W V i b c wk rm md (.slice ka ks.length kc) pk pa)) := HO1.out.below hb12 (by have := S1.out; omega)
    have HB2 : Hid (Below w.heap.size w W2) := HB1.out.trans (hb12.mono HB1.out.size)
    obtain ⟨own2, ht2⟩ : ∃ own2, TwinsAt w.heap.size own2 W2 (.slice (some ⟨g6, 0, none⟩) tw.length tc) tw Bb N came k := ⟨_, HT1.out.later hb12⟩
    have HT2 := hid_of ht2
    have HTM : Hid (∀ U, Below W2.heap.size W2 U -> Calls Tryz.prog 21 #[.agg #[.pointer xp, .pointer wp], .agg (opV 5 r W V i b c wk rm md (.slice ka ks.length kc) pk pa)] U fun e w' => ∃ v, e = .returned v /\ ∃ W' V' i', v = .agg (opV 5 r W' V' i' b c wk rm md (.slice ka ks.length kc) pk pa) /\ w'.cell? ⟨W1.heap.size, 0, none⟩ = some (.pointer xp) /\ w'.cell? ⟨W1.heap.size, 1, none⟩ = some (.pointer wp) /\ Below W2.heap.size W2 w') := fun U hU => by
     refine (tamed_calls (fun g => own2 g = 3 + m) xp wp k 5 r W V i b c wk rm md pk pa ka ks.length kc U ((HT2.out.each m _ HM.out).kept (Kept.of_below hU (X := fun b => W2.heap.size <= b) (fun _ _ h => h)) (fun g hg h => ⟨by omega, h⟩) (Nat.le_refl _)) HF.out.2.1 HF.out.2.2.1 HF.out.2.2.2.1 HF.out.2.2.2.2.1 HF.out.2.2.2.2.2.1).mono ?_
     rintro e w' ⟨W', V', i', rfl, hb'⟩
     have hUw : Below W2.heap.size W2 w' := hU.trans (hb'.mono hU.size)
     have hpb := HP2.out.below hUw (by have := S2.out; omega)
     exact ⟨_, rfl, W', V', i', rfl, hpb.cell rfl, hpb.cell rfl, hUw⟩
    have HAS : Hid (∀ U W' V' i', Below W2.heap.size W2 U -> Calls Tryz.prog 20 #[.agg #[.pointer xp, .pointer wp], .pointer (some ⟨Bb, 0, none⟩), .agg (opV 5 r W' V' i' b c wk rm md (.slice ka ks.length kc) pk pa)] U fun e w' => ∃ v, e = .returned v /\ v = .bool true /\ (∃ own9 N9 came9, TwinsAt w.heap.size own9 w' (.slice (some ⟨g6, 0, none⟩) tw.length tc) tw Bb N9 came9 (k + 1)) /\ Below w.heap.size w w') := fun U W' V' i' hU => by
     have hTU := HT2.out.later hU
     refine (asksM_calls _ _ xp wp k Bb N came (by have := HT2.out.hN; omega) (by have := HT2.out.hcm; omega) r W' V' i' b c wk rm md pk pa ka ks.length kc U (hTU.each m _ HM.out) hTU.books).mono ?_
     rintro e w' ⟨rfl, ⟨N', hN', hbk⟩, hk'⟩
     have hwU : Below w.heap.size w U := HB2.out.trans (hU.mono HB2.out.size)
     exact ⟨_, rfl, rfl, ⟨_, N', came + 1, hTU.asked hwU.size hk' hN' hbk⟩, hwU.trans (hk'.below hwU.size (fun g h => hTU.new g (by omega)))⟩
    have bo := HO2.out
    have o0 := bo.cell (o := 0) rfl
    have o1 := bo.cell (o := 1) rfl
    have o2 := bo.cell (o := 2) rfl
    have o3 := bo.cell (o := 3) rfl
    have o4 := bo.cell (o := 4) rfl
    have o5 := bo.cell (o := 5) rfl
    have o6 := bo.cell (o := 6) rfl
    have o7 := bo.cell (o := 7) rfl
    have o8 := bo.cell (o := 8) rfl
    have o9 := bo.cell (o := 9) rfl
    have o10 := bo.cell (o := 10) rfl
    have o11 := bo.cell (o := 11) rfl
    have o12 := bo.cell (o := 12) rfl
    have bp := HP2.out
    have p0 := bp.cell (o := 0) rfl
    have p1 := bp.cell (o := 1) rfl
    clear bo bp ht2 hb12
    go_region_law (first
     | (refine step_call2 (by rfl) 21 _ _ _ (by rfl) (.agg #[.pointer xp, .pointer wp]) (.agg (opV 5 r W V i b c wk rm md (.slice ka ks.length kc) pk pa)) (by rfl) (by rfl) (enters_of Tryz.func21 (by kernel_rfl) rfl) (HTM.out _ (by first | exact Below.refl _ _ | exact (Below.refl _ _).drew)) ?_; rintro v8 w8 ⟨W', V', i', rfl, q0, q1, hb8⟩)
     | (refine step_call3 (by rfl) 20 _ _ _ _ (by rfl) (.agg #[.pointer xp, .pointer wp]) (.pointer (some ⟨Bb, 0, none⟩)) (.agg (opV 5 r W' V' i' b c wk rm md (.slice ka ks.length kc) pk pa)) (by rfl) (by rfl) (by rfl) (enters_of Tryz.func20 (by kernel_rfl) rfl) (HAS.out _ W' V' i' (by first | assumption | exact Below.drew (by assumption))) ?_; rintro v9 w9 ⟨rfl, hx9, hb9⟩))
    all_goals
     obtain ⟨own9, N9, came9, ht9⟩ := hx9
     have HT9 := hid_of ht9
     have HB9 := hid_of hb9
     clear ht9 hb9 o0 o1 o2 o3 o4 o5 o6 o7 o8 o9 o10 o11 o12 p0 p1 HTM HAS
     have TW9 : True := trivial
     go_wp2_with (go_at_call 23; refine (stillB_calls _ Bb N9 came9 w9 HT9.out.books (by have := HT9.out.hN; omega)).mono ?_; rintro e w10 ⟨rfl, hb10⟩)
     go_roundw
     case rel => exact ⟨k + 1, _, tw, some ⟨g6, 0, none⟩, tc, N9, came9, by omega, by go_num, by first | rfl | (simp; done) | (simp [h0]; done), HB9.out.trans (hb10.mono HB9.out.size), HT9.out.later hb10⟩
     case measure => simp [intOf]; omega
   ·
    have HCH := hid_of hch
    have hk1 : (kk == 1) = false := by rw [beq_eq_false_iff_ne]; unfold Changing at hch; omega
    have hk3 : (kk == 3) = false := by rw [beq_eq_false_iff_ne]; unfold Changing at hch; omega
    have hk5 : (kk == 5) = false := by rw [beq_eq_false_iff_ne]; unfold Changing at hch; omega
    have hk12 : (kk == 12) = false := by rw [beq_eq_false_iff_ne]; unfold Changing at hch; omega
    have hk2 : 2 <= kk := by unfold Changing at hch; omega
    clear hch
    have hn1 : 0 < tw.length := by omega
    have hnz : ((tw.length : Int) == 0) = false := by rw [beq_eq_false_iff_ne]; omega
    obtain ⟨g6, cap6, hgf, hg61, hg62⟩ := World.ownsRow.form HT1.out.row hn1
    cases hgf
    have hpr := pickS_range r tw.length (by omega)
    obtain ⟨m, hm⟩ : ∃ m : Nat, pickS r tw.length = (m : Int) := ⟨(pickS r tw.length).toNat, by omega⟩
    have hmt : m < tw.length := by omega
    obtain ⟨p, hp⟩ : ∃ p, tw[m]? = some p := ⟨_, List.getElem?_eq_getElem hmt⟩
    obtain ⟨z0, z1⟩ := twins_get tw m p hp
    have hcell : ∀ j u, (tw.flatMap twinEnc)[j]? = some u -> W1.cell? ⟨g6, j, none⟩ = some u := fun j u hj => by
     have h1 := HT1.out.row.cells (g := g6) rfl j u hj
     rw [Addr.add_lit, Nat.zero_add] at h1
     exact h1
    have c0 := hcell _ _ z0
    have c1 := hcell _ _ z1
    obtain ⟨xp, wp⟩ := p
    dsimp only at c0 c1
    have HTP := hid_of (HT1.out.each m _ hp)
    have HM := hid_of hp
    have HPK : Hid (Calls Tryz.prog 19 #[.int .i64 r, .int .i64 tw.length] W1 fun e w' => e = .returned (.int .i64 (m : Int)) /\ W1 = w') := (lpick_calls r tw.length HF.out.1 (by omega) W1).mono fun e w' h => ⟨by rw [h.1, hm], h.2.symm⟩
    have m1 : (0 : Int) <= (m : Int) := by omega
    have m2 : (m : Int) < (tw.length : Int) := by omega
    clear z0 z1 hcell hpr hm hp
    have o1 := HO1.out.cell (o := 1) rfl
    go_upto_region 22 with (go_at_call 19; refine HPK.out.mono ?_; rintro e w2 ⟨rfl, rfl⟩)
    obtain ⟨W2, hW2⟩ : ∃ W2, W1.alloc (Obj.cells #[.pointer xp, .pointer wp] 61) = W2 := ⟨_, rfl⟩
    have HP2 : Hid (BoxAt W2 W1.heap.size 61 #[.pointer xp, .pointer wp]) := by show BoxAt _ _ _ _; rw [<- hW2]; exact BoxAt.new W1 _ _
    have hb12 : Below W1.heap.size W1 W2 := by rw [<- hW2]; exact (Below.refl _ _).alloc (Nat.le_refl _) _
    have S2 : Hid (W2.heap.size = W1.heap.size + 1) := by show _ = _; rw [<- hW2]; simp
    rw [hW2]
    clear hW2 c0 c1 o0 o1 HPK
    have HO2 : Hid (BoxAt W2 wr.heap.size 58 (opV kk r W V i b c wk rm md (.slice ka ks.length kc) pk pa)) := HO1.out.below hb12 (by have := S1.out; omega)
    have HB2 : Hid (Below w.heap.size w W2) := HB1.out.trans (hb12.mono HB1.out.size)
    obtain ⟨own2, ht2⟩ : ∃ own2, TwinsAt w.heap.size own2 W2 (.slice (some ⟨g6, 0, none⟩) tw.length tc) tw Bb N came k := ⟨_, HT1.out.later hb12⟩
    have HT2 := hid_of ht2
    have HTM : Hid (∀ U, Below W2.heap.size W2 U -> Calls Tryz.prog 21 #[.agg #[.pointer xp, .pointer wp], .agg (opV kk r W V i b c wk rm md (.slice ka ks.length kc) pk pa)] U fun e w' => ∃ v, e = .returned v /\ ∃ W' V' i', v = .agg (opV kk r W' V' i' b c wk rm md (.slice ka ks.length kc) pk pa) /\ w'.cell? ⟨W1.heap.size, 0, none⟩ = some (.pointer xp) /\ w'.cell? ⟨W1.heap.size, 1, none⟩ = some (.pointer wp) /\ Below W2.heap.size W2 w') := fun U hU => by
     refine (tamed_calls (fun g => own2 g = 3 + m) xp wp k kk r W V i b c wk rm md pk pa ka ks.length kc U ((HT2.out.each m _ HM.out).kept (Kept.of_below hU (X := fun b => W2.heap.size <= b) (fun _ _ h => h)) (fun g hg h => ⟨by omega, h⟩) (Nat.le_refl _)) HF.out.2.1 HF.out.2.2.1 HF.out.2.2.2.1 HF.out.2.2.2.2.1 HF.out.2.2.2.2.2.1).mono ?_
     rintro e w' ⟨W', V', i', rfl, hb'⟩
     have hUw : Below W2.heap.size W2 w' := hU.trans (hb'.mono hU.size)
     have hpb := HP2.out.below hUw (by have := S2.out; omega)
     exact ⟨_, rfl, W', V', i', rfl, hpb.cell rfl, hpb.cell rfl, hUw⟩
    have HAS : Hid (∀ U W' V' i', Below W2.heap.size W2 U -> Calls Tryz.prog 22 #[.agg #[.pointer xp, .pointer wp], .agg (opV kk r W' V' i' b c wk rm md (.slice ka ks.length kc) pk pa)] U fun e w' => ∃ v, e = .returned v /\ v = .bool true /\ (∃ own9 N9 came9, TwinsAt w.heap.size own9 w' (.slice (some ⟨g6, 0, none⟩) tw.length tc) tw Bb N9 came9 (k + 1)) /\ Below w.heap.size w w') := fun U W' V' i' hU => by
     have hTU := HT2.out.later hU
     refine (changes_calls kk HCH.out _ xp wp k (by omega) r W' V' i' b c wk rm md pk pa ka ks.length kc U (hTU.each m _ HM.out)).mono ?_
     rintro e w' ⟨rfl, htw', hk'⟩
     have hwU : Below w.heap.size w U := HB2.out.trans (hU.mono HB2.out.size)
     exact ⟨_, rfl, rfl, ⟨_, N, came, hTU.changed hwU.size HM.out hk' htw'⟩, hwU.trans (hk'.below hwU.size (fun g h => hTU.new g (by omega)))⟩
    have bo := HO2.out
    have o0 := bo.cell (o := 0) rfl
    have o1 := bo.cell (o := 1) rfl
    have o2 := bo.cell (o := 2) rfl
    have o3 := bo.cell (o := 3) rfl
    have o4 := bo.cell (o := 4) rfl
    have o5 := bo.cell (o := 5) rfl
    have o6 := bo.cell (o := 6) rfl
    have o7 := bo.cell (o := 7) rfl
    have o8 := bo.cell (o := 8) rfl
    have o9 := bo.cell (o := 9) rfl
    have o10 := bo.cell (o := 10) rfl
    have o11 := bo.cell (o := 11) rfl
    have o12 := bo.cell (o := 12) rfl
    have bp := HP2.out
    have p0 := bp.cell (o := 0) rfl
    have p1 := bp.cell (o := 1) rfl
    clear bo bp ht2 hb12
    go_region_law (first
     | (refine step_call2 (by rfl) 21 _ _ _ (by rfl) (.agg #[.pointer xp, .pointer wp]) (.agg (opV kk r W V i b c wk rm md (.slice ka ks.length kc) pk pa)) (by rfl) (by rfl) (enters_of Tryz.func21 (by kernel_rfl) rfl) (HTM.out _ (by first | exact Below.refl _ _ | exact (Below.refl _ _).drew)) ?_; rintro v8 w8 ⟨W', V', i', rfl, q0, q1, hb8⟩)
     | (refine step_call2 (by rfl) 22 _ _ _ (by rfl) (.agg #[.pointer xp, .pointer wp]) (.agg (opV kk r W' V' i' b c wk rm md (.slice ka ks.length kc) pk pa)) (by rfl) (by rfl) (enters_of Tryz.func22 (by kernel_rfl) rfl) (HAS.out _ W' V' i' (by first | assumption | exact Below.drew (by assumption))) ?_; rintro v9 w9 ⟨rfl, hx9, hb9⟩))
    all_goals
     obtain ⟨own9, N9, came9, ht9⟩ := hx9
     have HT9 := hid_of ht9
     have HB9 := hid_of hb9
     clear ht9 hb9 o0 o1 o2 o3 o4 o5 o6 o7 o8 o9 o10 o11 o12 p0 p1 HTM HAS
     have TW9 : True := trivial
     go_wp2_with (go_at_call 23; refine (stillB_calls _ Bb N9 came9 w9 HT9.out.books (by have := HT9.out.hN; omega)).mono ?_; rintro e w10 ⟨rfl, hb10⟩)
     go_roundw
     case rel => exact ⟨k + 1, _, tw, some ⟨g6, 0, none⟩, tc, N9, came9, by omega, by go_num, by first | rfl | (simp; done) | (simp [h0]; done), HB9.out.trans (hb10.mono HB9.out.size), HT9.out.later hb10⟩
     case measure => simp [intOf]; omega
   ·
    have hk1 : (kk == 1) = false := by rw [beq_eq_false_iff_ne]; omega
    have hk3 : (kk == 3) = false := by rw [beq_eq_false_iff_ne]; omega
    have hk5 : (kk == 5) = false := by rw [beq_eq_false_iff_ne]; omega
    have hk12 : (kk == 12) = false := by rw [beq_eq_false_iff_ne]; omega
    have hz : ((tw.length : Int) == 0) = false := by rw [beq_eq_false_iff_ne]; omega
    have HT9 := hid_of (HT1.out.next (i' := k + 1) (by omega))
    have HB9 := HB1
    have TW9 : True := trivial
    go_wp2_with (go_at_call 23; refine (stillB_calls _ Bb N came W1 HT9.out.books (by have := HT9.out.hN; omega)).mono ?_; rintro e w10 ⟨rfl, hb10⟩)
    go_roundw
    case rel => exact ⟨k + 1, _, tw, ta, tc, N, came, by omega, by go_num, by first | rfl | (simp; done) | (simp [h0]; done), HB9.out.trans (hb10.mono HB9.out.size), HT9.out.later hb10⟩
    case measure => simp [intOf]; omega
  ·go_wp2_with fail
   go_ret
   exact ⟨rfl, HBW.out⟩
end Go.Proofs.YteahdfeialekbaaGreatDoor
namespace Go.Proofs.YteahdfeialekbaaGreatDoor
open Go Go.RowKit Go.Deep Go.ChangeShapes Go.WideShapes
theorem cellsConfig : Tryz.prog.cellsOf 39 = 3 := by kernel_rfl
theorem cellsOp : Tryz.prog.cellsOf 58 = 13 := by kernel_rfl
theorem list13 {l : List Value} (h : l.length = 13) : ∃ v0 v1 v2 v3 v4 v5 v6 v7 v8 v9 v10 v11 v12, l = [v0, v1, v2, v3, v4, v5, v6, v7, v8, v9, v10, v11, v12] := by
 match l, h with
 | [v0, v1, v2, v3, v4, v5, v6, v7, v8, v9, v10, v11, v12], _ => exact ⟨v0, v1, v2, v3, v4, v5, v6, v7, v8, v9, v10, v11, v12, rfl⟩
theorem list9 {α : Type} {l : List α} (h : l.length = 9) : ∃ v0 v1 v2 v3 v4 v5 v6 v7 v8, l = [v0, v1, v2, v3, v4, v5, v6, v7, v8] := by
 match l, h with
 | [v0, v1, v2, v3, v4, v5, v6, v7, v8], _ => exact ⟨v0, v1, v2, v3, v4, v5, v6, v7, v8, rfl⟩
theorem isI64_of_wf {z : Int} (h : (Lit.int .i64 z).wf = true) : isI64 z := by
 have := h
 simp [Lit.wf, IntKind.min, IntKind.max, IntKind.signed, IntKind.bits] at this
 exact ⟨this.1, by omega⟩
def OpAgg {H : Type} (d : DataW H) : Prop := ∃ n0 n1 n2 n3 n4 n5 n6 q, d = .agg (.lit (.int .i64 n0) :: .lit (.int .i64 n1) :: .lit (.int .i64 n2) :: .lit (.int .i64 n3) :: .lit (.int .i64 n4) :: .lit (.int .i64 n5) :: .lit (.int .i64 n6) :: q)
section
variable {H : Type} {enc : TypeId × Value -> H} {W : World} {spare : Nat -> Bool} {held : Bool}
theorem trod_struct9 {P : Program} {base : Nat} {t : TypeId} {f0 f1 f2 f3 f4 f5 f6 f7 f8 : Field} {fuel : Nat} {cs : List Value} {x : DataW H × List MemPlace} (ht : P.underlying t = some (.struct #[f0, f1, f2, f3, f4, f5, f6, f7, f8])) (h : DataW.trod enc P W base spare held fuel t cs = some x) :
  ∃ y0 y1 y2 y3 y4 y5 y6 y7 y8 n, x.1 = .agg [y0.1, y1.1, y2.1, y3.1, y4.1, y5.1, y6.1, y7.1, y8.1] /\ DataW.trod enc P W base spare held n f0.type ((cs.drop f0.offset).take (P.cellsOf f0.type)) = some y0 /\ DataW.trod enc P W base spare held n f1.type ((cs.drop f1.offset).take (P.cellsOf f1.type)) = some y1 /\ DataW.trod enc P W base spare held n f2.type ((cs.drop f2.offset).take (P.cellsOf f2.type)) = some y2 /\ DataW.trod enc P W base spare held n f3.type ((cs.drop f3.offset).take (P.cellsOf f3.type)) = some y3 /\ DataW.trod enc P W base spare held n f4.type ((cs.drop f4.offset).take (P.cellsOf f4.type)) = some y4 /\ DataW.trod enc P W base spare held n f5.type ((cs.drop f5.offset).take (P.cellsOf f5.type)) = some y5 /\ DataW.trod enc P W base spare held n f6.type ((cs.drop f6.offset).take (P.cellsOf f6.type)) = some y6 /\ DataW.trod enc P W base spare held n f7.type ((cs.drop f7.offset).take (P.cellsOf f7.type)) = some y7 /\ DataW.trod enc P W base spare held n f8.type ((cs.drop f8.offset).take (P.cellsOf f8.type)) = some y8 := by
 obtain ⟨xs, n, _, rfl, _, hlen, hf⟩ := DataW.trod_struct ht h
 obtain ⟨y0, y1, y2, y3, y4, y5, y6, y7, y8, rfl⟩ := list9 (show xs.length = 9 from hlen)
 exact ⟨y0, y1, y2, y3, y4, y5, y6, y7, y8, n, by simp, by simpa using hf 0 f0 rfl, by simpa using hf 1 f1 rfl, by simpa using hf 2 f2 rfl, by simpa using hf 3 f3 rfl, by simpa using hf 4 f4 rfl, by simpa using hf 5 f5 rfl, by simpa using hf 6 f6 rfl, by simpa using hf 7 f7 rfl, by simpa using hf 8 f8 rfl⟩
theorem op_opened {fuel : Nat} {cs : List Value} {x : DataW H × List MemPlace} (h : DataW.trod enc Tryz.prog W 0 spare held fuel 58 cs = some x) (hl : cs.length = 13) (hw : ∀ n ∈ x.1.weights Tryz.prog 58, n <= reachBytes) :
  OpAgg x.1 /\ ∃ s : OpS, OpFits s /\ ∃ ka kc, cs = (opV s.k s.r s.W s.V s.i s.b s.c s.wk s.rm s.md (.slice ka s.ks.length kc) s.pk s.pa).toList /\ KindsAt (fun _ => True) W (.slice ka s.ks.length kc) s.ks := by
 obtain ⟨y0, y1, y2, y3, y4, y5, y6, y7, y8, n, hX, g0, g1, g2, g3, g4, g5, g6, g7, g8⟩ := trod_struct9 Tryz.underlying58 h
 obtain ⟨v0, v1, v2, v3, v4, v5, v6, v7, v8, v9, v10, v11, v12, rfl⟩ := list13 hl
 simp only [cellsI, cellsConfig, cellsProgram, List.drop_zero, List.drop_succ_cons, List.take_succ_cons, List.take_zero] at g0 g1 g2 g3 g4 g5 g6 g7 g8
 obtain ⟨z0, e0, d0, w0⟩ := DataW.trod_int Tryz.underlying3 g0
 obtain ⟨z1, e1, d1, w1⟩ := DataW.trod_int Tryz.underlying3 g1
 obtain ⟨z2, e2, d2, w2⟩ := DataW.trod_int Tryz.underlying3 g2
 obtain ⟨z3, e3, d3, w3⟩ := DataW.trod_int Tryz.underlying3 g3
 obtain ⟨z4, e4, d4, w4⟩ := DataW.trod_int Tryz.underlying3 g4
 obtain ⟨z5, e5, d5, w5⟩ := DataW.trod_int Tryz.underlying3 g5
 obtain ⟨z6, e6, d6, w6⟩ := DataW.trod_int Tryz.underlying3 g6
 obtain ⟨c0, c1, c2, nc, _, _, k0, k1, k2⟩ := trod_struct3 Tryz.underlying39 g7
 obtain ⟨p0, p1, p2, np, hp, _, q0, q1, q2⟩ := trod_struct3 Tryz.underlying42 g8
 simp only [cellsI, cellsKinds, List.drop_zero, List.drop_succ_cons, List.take_succ_cons, List.take_zero] at k0 k1 k2 q0 q1 q2
 obtain ⟨z7, e7, _, _⟩ := DataW.trod_int Tryz.underlying3 k0
 obtain ⟨z8, e8, _, _⟩ := DataW.trod_int Tryz.underlying3 k1
 obtain ⟨z9, e9, _, _⟩ := DataW.trod_int Tryz.underlying3 k2
 obtain ⟨z11, e11, _, _⟩ := DataW.trod_int Tryz.underlying3 q1
 obtain ⟨z12, e12, _, _⟩ := DataW.trod_int Tryz.underlying3 q2
 have hwk : ∀ m ∈ p0.1.weights Tryz.prog 40, m <= reachBytes := fun m hm => by
  refine hw m ?_
  rw [hX]
  simp only [DataW.weights, Tryz.underlying58]
  refine DataW.weights_mem_each (j := 8) (t := 42) (d := y8.1) rfl rfl m ?_
  rw [hp]
  simp only [DataW.weights, Tryz.underlying42]
  exact List.mem_append_left _ hm
 obtain ⟨ks, hks, hkl, hkl2⟩ := kinds_opened q0 hwk
 simp only [List.cons.injEq, and_true] at e0 e1 e2 e3 e4 e5 e6 e7 e8 e9 e11 e12
 subst e0 e1 e2 e3 e4 e5 e6 e7 e8 e9 e11 e12
 obtain ⟨ka, kc, hk0, _⟩ := id hks
 subst hk0
 refine ⟨⟨z0, z1, z2, z3, z4, z5, z6, _, by rw [hX, d0, d1, d2, d3, d4, d5, d6]⟩, ⟨z0, z1, z2, z3, z4, z5, z6, z7, z8, z9, ks, z11, z12⟩, ⟨isI64_of_wf w1, isI64_of_wf w2, isI64_of_wf w3, isI64_of_wf w4, isI64_of_wf w5, isI64_of_wf w6, hkl, hkl2⟩, ka, kc, rfl, hks⟩
theorem script_opened {fuel : Nat} {v : Value} {x : DataW H × List MemPlace} (h : DataW.trod enc Tryz.prog W 0 spare held fuel 22 [v] = some x) (hw : ∀ n ∈ x.1.weights Tryz.prog 22, n <= reachBytes) :
  ∃ a cap, ∃ l : List OpS, v = .slice a l.length cap /\ ScriptAt W a l /\ (l.length = 0 \/ ∃ el sp, x.1 = .slice el sp /\ el.length = l.length /\ ∀ d ∈ el, OpAgg d) := by
 rcases open_slice Tryz.underlying22 h with ⟨h0, -⟩ | ⟨a, len, cap, m, n, D, Pl, h0, -, hlc, hcm, hm, rfl, hx⟩
 ·simp only [List.cons.injEq, and_true] at h0
  exact ⟨none, 0, [], h0, fun j c hj => by simp at hj, .inl rfl⟩
 ·simp only [List.cons.injEq, and_true] at h0
  have hlm : len <= m := by rw [hm]; split <;> omega
  have each : ∀ i, i < len -> ∃ s : OpS, OpAgg (D i) /\ OpFits s /\ ∃ ka kc, (∀ t u, (opV s.k s.r s.W s.V s.i s.b s.c s.wk s.rm s.md (.slice ka s.ks.length kc) s.pk s.pa)[t]? = some u -> W.cell? (a.add (i * 13 + t)) = some u) /\ KindsAt (fun _ => True) W (.slice ka s.ks.length kc) s.ks := by
   intro i hi
   obtain ⟨cs', h1, h2⟩ := hx i (by omega)
   rw [cellsOp] at h1
   obtain ⟨_, hl, hcell⟩ := World.cells?_some h1
   have hDi : D i ∈ (List.range len).map D := List.mem_map.2 ⟨i, List.mem_range.2 hi, rfl⟩
   obtain ⟨hag, s, hs, ka, kc, hcs, hks⟩ := op_opened h2 hl (fun m hm => hw m (by
    simp only [DataW.weights, Tryz.underlying22]
    exact List.mem_cons_of_mem _ (List.mem_append_left _ (weights_all hDi _ hm))))
   refine ⟨s, hag, hs, ka, kc, fun t u ht => ?_, hks⟩
   have htl : t < 13 := by
    have := (Array.getElem?_eq_some_iff.1 ht).1
    simpa using this
   have e := hcell t (by omega)
   rw [add_add] at e
   rw [e, hcs, Array.getElem?_toList]
   exact ht
  have hin : Inhabited OpS := ⟨⟨0, 0, 0, 0, 0, 0, 0, 0, 0, 0, [], 0, 0⟩⟩
  obtain ⟨K, hK⟩ := choose_lt each
  refine ⟨some a, cap, (List.range len).map K, by rw [h0]; simp, fun j c hj => ?_, .inr ⟨_, _, rfl, by simp, fun d hd => ?_⟩⟩
  ·have hjl : j < len := by simpa using (List.getElem?_eq_some_iff.1 hj).1
   simp [hjl] at hj
   subst hj
   obtain ⟨_, hfit, ka, kc, hc, hks⟩ := hK j hjl
   obtain ⟨_, _, ka0, kc0, hc0, _⟩ := hK 0 (by omega)
   have a0 := hc0 0 _ rfl
   rw [Nat.zero_mul, Nat.add_zero] at a0
   obtain ⟨b, o, ha, hb, _⟩ := addr_plain a0 a0
   subst ha
   refine ⟨hfit, b, o, rfl, hb, ka, kc, fun t u ht => ?_, hks⟩
   have := hc t u ht
   rw [Addr.add_lit] at this
   rw [Nat.add_assoc]
   exact this
  ·obtain ⟨i, hi, rfl⟩ := List.mem_map.1 hd
   exact (hK i (List.mem_range.1 hi)).1
end
theorem delivers_calls (a : Option Addr) (cap : Nat) (l : List OpS) (w : World) (hs : ScriptAt w a l) (hl : l.length <= 170000) :
  Calls Tryz.prog 5 #[.slice a l.length cap] w fun e w' => e = .returned (.bool true) /\ Below w.heap.size w w' := by
 have HH := hid_of (holds_calls 9 (.inr (.inr rfl)) a cap l w hs hl)
 clear hs
 go_enter Tryz.func5, Tryz.ntmps5
 go_wp2_with (go_at_call 9; refine HH.out.mono ?_; rintro e w1 ⟨rfl, hb1⟩)
 go_ret
 exact ⟨rfl, hb1⟩
end Go.Proofs.YteahdfeialekbaaGreatDoor
