/-
  What has come to the project's workers, one thing after another: the document's answer as plain data.
-/
import Derived.Test.YteahdfeialekbaaGreatDoorXAnswer
import Derived.Test.YteahdfeialekbaaGreatDoorTwins
namespace Go.Proofs.YteahdfeialekbaaGreatDoor
open Go Go.RowKit Go.Maps Go.WideMaps
theorem XAtO.xlen {part : Nat -> Nat} {W : World} {B M n c : Nat} {a : Option Addr} {s : RunS} {kv yv : Value} {xs : List XW} (h : XAtO part W B s kv (.slice a n c) yv M xs) : xs.length = n := by
 obtain ⟨a', c', e⟩ := row_form h.wrow.1
 cases e
 rfl
theorem XAtO.tcell {part : Nat -> Nat} {W : World} {B M n c gw j : Nat} {s : RunS} {kv yv : Value} {xs : List XW} {x : XW} (h : XAtO part W B s kv (.slice (some ⟨gw, 0, none⟩) n c) yv M xs) (hx : xs[j]? = some x) : W.cell? ⟨gw, j * 7, none⟩ = some (.pointer (some ⟨x.T, 0, none⟩)) := by
 have hl := h.xlen
 have h1 := h.wrow.1.cells (g := gw) rfl (j * 7 + 0) _ (flat_get (sz := 7) (enc := xwEnc) (fun _ => rfl) xs j x 0 _ hx rfl)
 rwa [addr_add] at h1
theorem XAtO.acell {part : Nat -> Nat} {W : World} {B M n c gw j : Nat} {s : RunS} {kv yv : Value} {xs : List XW} {x : XW} (h : XAtO part W B s kv (.slice (some ⟨gw, 0, none⟩) n c) yv M xs) (hx : xs[j]? = some x) : W.cell? ⟨gw, j * 7 + 1, none⟩ = some (.bool x.asked) /\ W.frozen? ⟨gw, j * 7 + 1, none⟩ = false := by
 have hl := h.xlen
 have h1 := h.wrow.1.cells (g := gw) rfl (j * 7 + 1) _ (flat_get (sz := 7) (enc := xwEnc) (fun _ => rfl) xs j x 1 _ hx rfl)
 obtain ⟨cs, hcs⟩ := row_obj h.wrow.1 (g := gw) rfl
 have hb : BoxAt W gw 136 cs := hcs
 exact ⟨by rwa [addr_add] at h1, hb.frozen _⟩
theorem fold_take {s : RunS} {ms : List MsgS} {k : Nat} {m : MsgS} (h : ms[k]? = some m) : (ms.take (k + 1)).foldl cameS s = cameS ((ms.take k).foldl cameS s) m := by
 rw [List.take_add_one, h, List.foldl_append]
 rfl
theorem cameS2 {N i j : Nat} {s : RunS} {m : MsgS} {y : WorkerS} (hc : ComeAt N s i j m) (hy : s.W[j]? = some y) (hk : m.kind = 2) : cameS s m = { s with W := s.W.set j { y with came := y.came + 1, black := true, asked := false, tasks := y.tasks ++ [m.t] } } := by
 unfold cameS
 simp only [hk, hc.dst, Int.toNat_natCast, hy, Option.getD_some]
 rfl
theorem cameS3 {N i j : Nat} {s : RunS} {m : MsgS} {y : WorkerS} (hc : ComeAt N s i j m) (hy : s.W[j]? = some y) (hk : m.kind = 3) : cameS s m = { s with W := s.W.set j { y with asked := false } } := by
 unfold cameS
 simp only [hk, hc.dst, Int.toNat_natCast, hy, Option.getD_some]
 rfl
theorem cameS4 {N i j : Nat} {s : RunS} {m : MsgS} {y : WorkerS} (hc : ComeAt N s i j m) (hy : s.W[j]? = some y) (hk : m.kind = 4) : cameS s m = { s with W := s.W.set j { y with came := y.came + 1, black := true }, values := putS s.values m.v } := by
 unfold cameS
 simp only [hk, hc.dst, Int.toNat_natCast, hy, Option.getD_some]
 rfl
theorem putTask_x (j : Nat) (t : TaskS) (b : Nat) {part : Nat -> Nat} {w : World} {B M gw n c : Nat} {s : RunS} {kv yv : Value} {xs : List XW} {x : XW} {y : WorkerS} (h : XAtO part w B s kv (.slice (some ⟨gw, 0, none⟩) n c) yv M xs) (hx : xs[j]? = some x) (hy : s.W[j]? = some y) (hf : y.tasks.length <= 1000000) (hb : BoxAt w b 76 #[.string t.id, .int .i64 t.kind, .int .i64 t.arg]) :
  Calls Tryz.prog 176 #[.pointer (some ⟨x.T, 0, none⟩), .slice (some ⟨b, 0, none⟩) 1 1] w fun e w' => ∃ v, e = .returned v /\ (v = .tuple #[] /\ ∃ part', XAtO part' w' B { s with W := s.W.set j { y with tasks := y.tasks ++ [t] } } kv (.slice (some ⟨gw, 0, none⟩) n c) yv M xs /\ XMoved part part' w w') := by
 refine (tasksPut_calls (fun b => part b = 10 + j) x.T s.room y.tasks t b w (h.wat j x y hx hy).2 hf hb).mono ?_
 rintro e w' ⟨v, rfl, rfl, h1, h2⟩
 obtain ⟨h3, hm3⟩ := h.retasks (l := y.tasks ++ [t]) hx hy h2 h1
 exact ⟨_, rfl, rfl, _, h3, hm3⟩
theorem keepVal_x (v : ByteArray × Int) (b : Nat) {part : Nat -> Nat} {w : World} {B M : Nat} {s : RunS} {kv wv yv : Value} {xs : List XW} (h : XAtO part w B s kv wv yv M xs) (hv : s.values.length <= 900000) (hs : v.1.size <= 12) (hwf : (Lit.int .i64 v.2).wf = true) (hb : BoxAt w b 84 #[.string v.1, .int .i64 v.2]) :
  Calls Tryz.prog 65 #[.map (some M), .slice (some ⟨b, 0, none⟩) 1 1] w fun e w' => ∃ u, e = .returned u /\ (∃ part', XAtO part' w' B { s with values := putS s.values v } kv wv yv M xs /\ XMoved part part' w w') := by
 obtain ⟨D, hm, hpM, hDs⟩ := h.vals
 refine (keep_calls M b 0 D v.1 v.2 w hm (by omega) (by omega) hwf (hb.cell (o := 0) rfl) (hb.cell (o := 1) rfl) hb.lt).mono ?_
 rintro e w' ⟨⟨u, rfl⟩, h1, h2⟩
 have htidy : Tidy D := World.ownsMap.tidy hm strKeyed
 have hsz : Maps.size (D.put (keyL v.1) (elemD v.2)) <= (putS s.values v).length := by
  rw [size_put htidy, putS_length]
  split <;> omega
 obtain ⟨h8, hm8⟩ := h.revals (vs := putS s.values v) h2 ⟨_, h1, hpM, hsz⟩
 exact ⟨u, rfl, _, h8, hm8⟩
set_option maxHeartbeats 8000000 in
set_option maxRecDepth 100000 in
theorem come_x (i j : Nat) (ms : List MsgS) (a : Option Addr) (c : Nat) {part : Nat -> Nat} {w : World} {B M N : Nat} {s : RunS} {kv wv yv : Value} {xs : List XW} (h : XAtO part w B s kv wv yv M xs) (hv : w.ownsRow 0 140 15 (.slice a ms.length c) ms.length (ms.flatMap msgEnc)) (hp : ∀ g, (Value.slice a ms.length c).ownBlock = some g -> part g = 0) (hlen : ms.length <= 1000000)
  (hok : ∀ k m, ms[k]? = some m -> ComeAt N ((ms.take k).foldl cameS s) i j m /\ CalmM m /\ 1 <= m.kind) :
  Calls Tryz.prog 164 #[.pointer (some ⟨B, 0, none⟩), .slice a ms.length c] w fun e w' => ∃ u, e = .returned u /\ (u = .tuple #[] /\ ∃ part' yv' xs', XAtO part' w' B (ms.foldl cameS s) kv wv yv' M xs' /\ XMoved part part' w w') := by
 have hWlen : s.W.length ≠ 0 -> ∃ gw n wc, wv = .slice (some ⟨gw, 0, none⟩) n wc := fun h0 => by
  obtain ⟨gw, wc, hwf, -, -⟩ := World.ownsRow.form h.wrow.1 (by have := h.wlen; omega)
  exact ⟨gw, _, wc, hwf⟩
 have HH := hid_of h
 have HV := hid_of hv
 have HP := hid_of hp
 have HOK := hid_of hok
 have HWL := hid_of hWlen
 clear h hv hp hok hWlen
 go_enter Tryz.func164, Tryz.ntmps164
 go_wp2_with fail
 go_loopw [9] (fun iv wr => ∃ (k : Nat) (part' : Nat -> Nat) (yv' : Value) (xs' : List XW), k <= ms.length /\ iv = .int .i64 k /\ XAtO part' wr B ((ms.take k).foldl cameS s) kv wv yv' M xs' /\ XMoved part part' w wr) (fun iv _ => ms.length - (intOf iv).toNat)
 case atStart => exact ⟨0, part, yv, xs, Nat.zero_le _, rfl, HH.out, XMoved.refl _ _⟩
 case round =>
  obtain ⟨k, part', yv', xs', hk, rfl, hx', hmv'⟩ := hrel
  rename World => wr
  by_cases hlt : k < ms.length
  ·obtain ⟨m, hm⟩ : ∃ m, ms[k]? = some m := ⟨_, List.getElem?_eq_getElem hlt⟩
   obtain ⟨hc, hcal, hk1⟩ := HOK.out k m hm
   obtain ⟨s', hs'⟩ : ∃ s', (ms.take k).foldl cameS s = s' := ⟨_, rfl⟩
   have HNEXT : Hid ((ms.take (k + 1)).foldl cameS s = cameS s' m) := by show _ = _; rw [fold_take hm, hs']
   rw [hs'] at hc hx'
   obtain ⟨g, gc, hvf, -, hgl⟩ := World.ownsRow.form HV.out (by omega)
   cases hvf
   have hg0 := HP.out g rfl
   have hgk : Kept (fun b => part b ≠ 0) w wr := hmv'.kept
   have hcm : ∀ o u, (msgCells m)[o]? = some u -> wr.cell? ⟨g, k * 15 + o, none⟩ = some u := fun o u ho => by
    have := HV.out.cells (g := g) rfl _ u (flat_get (sz := 15) (enc := msgEnc) (fun _ => rfl) ms k m o u hm (by simpa [msgEnc] using ho))
    rw [addr_add] at this
    exact (hgk.cell (p := ⟨g, k * 15 + o, none⟩) hgl (fun h => h hg0)).trans this
   have hjl := hc.hj
   obtain ⟨y, hy⟩ : ∃ y, s'.W[j]? = some y := ⟨_, List.getElem?_eq_getElem hjl⟩
   have hxl' := hx'.wlen
   obtain ⟨x, hx⟩ : ∃ x, xs'[j]? = some x := ⟨_, List.getElem?_eq_getElem (by omega)⟩
   obtain ⟨gw, wc, hwf, -, hgw⟩ := World.ownsRow.form hx'.wrow.1 (by omega)
   subst hwf
   have m0 : wr.cell? ⟨g, k * 15, none⟩ = some (.int .i64 m.src) := hcm 0 _ rfl
   have m1 := hcm 1 _ rfl
   have m2 := hcm 2 _ rfl
   have m3 := hcm 3 _ rfl
   have m4 := hcm 4 _ rfl
   have m5 := hcm 5 _ rfl
   have m6 := hcm 6 _ rfl
   have m7 := hcm 7 _ rfl
   have m8 := hcm 8 _ rfl
   have m9 := hcm 9 _ rfl
   have m10 := hcm 10 _ rfl
   have m11 := hcm 11 _ rfl
   have m12 := hcm 12 _ rfl
   have m13 := hcm 13 _ rfl
   have m14 := hcm 14 _ rfl
   obtain ⟨Z, hZ⟩ : ∃ Z, wr.alloc (Obj.cells (msgCells m) 140) = Z := ⟨_, rfl⟩
   have gZ : Below wr.heap.size wr Z := by rw [<- hZ]; exact (Below.refl _ _).alloc (Nat.le_refl _) _
   have bZ : BoxAt Z wr.heap.size 140 (msgCells m) := by rw [<- hZ]; exact BoxAt.new wr _ _
   obtain ⟨hxZ, hmZ⟩ := hx'.later gZ
   have b3 : Z.cell? ⟨B, 3, none⟩ = some (.slice (some ⟨gw, 0, none⟩) xs'.length wc) := hxZ.box.cell (o := 3) rfl
   have d1 : Z.cell? ⟨wr.heap.size, 1, none⟩ = some (.int .i64 (j : Int)) := by rw [<- hc.dst]; exact bZ.cell (o := 1) rfl
   have j1 : (0 : Int) <= (j : Int) := by omega
   have j2 : (j : Int) < (xs'.length : Int) := by omega
   have i1 : (0 : Int) <= (k : Int) := by omega
   have i2 : (k : Int) < (ms.length : Int) := by omega
   have HXZ := hid_of hxZ
   have HMZ : Hid (XMoved part (ext wr part' 0) w Z) := hmv'.trans hmZ
   have HBZ := hid_of bZ
   have HC := hid_of hc
   have HCAL := hid_of hcal
   have HY : Hid (s'.W[j]? = some y) := hy
   have HX0 : Hid (xs'[j]? = some x) := hx
   have hp0 : ext wr part' 0 wr.heap.size = 0 := ext_new (Nat.le_refl _)
   have hcame := hc.small.got y (List.mem_of_getElem? hy)
   have hle := hc.le
   have hvals := hc.vals
   have hfew := hc.few y (List.mem_of_getElem? hy)
   have hkk := hcal.kind
   clear hx' hmv' hgk hcm gZ bZ hxZ hmZ hc hcal hy hx hxl' hm hs'
   go_upto_region 3 with fail
   try rw [hZ]
   clear hZ m0 m1 m2 m3 m4 m5 m6 m7 m8 m9 m10 m11 m12 m13 m14
   go_cut [6] from 10 to 62 (fun pv wx => pv = .pointer (some ⟨gw, j * 7, none⟩) /\ Below Z.heap.size Z wx)
   case first =>
    go_quiet (fail)
    go_wp2_with fail
    go_meet
    case rel => exact ⟨rfl, by first | exact Below.refl _ _ | exact (Below.refl _ _).drew | exact below_drewN (Below.refl _ _) _⟩
   case rest =>
    obtain ⟨rfl, hbx⟩ := hcut
    rename World => wx
    have bx := HBZ.out.below hbx HBZ.out.lt
    obtain ⟨h1, hm1⟩ := HXZ.out.later hbx
    have HX1 := hid_of h1
    have HM1 := hid_of hm1
    have hpx : ext Z (ext wr part' 0) 0 wr.heap.size = 0 := (ext_old HBZ.out.lt).trans hp0
    have HBX := hid_of bx
    have e0 : wx.cell? ⟨wr.heap.size, 0, none⟩ = some (.int .i64 (i : Int)) := by rw [<- HC.out.src]; exact bx.cell (o := 0) rfl
    have e1 : wx.cell? ⟨wr.heap.size, 1, none⟩ = some (.int .i64 (j : Int)) := by rw [<- HC.out.dst]; exact bx.cell (o := 1) rfl
    have e3 := bx.cell (o := 3) rfl
    have hkind : m.kind = 1 \/ m.kind = 2 \/ m.kind = 3 \/ m.kind = 4 := by omega
    clear hbx h1 hm1 bx b3 d1
    rcases hkind with hq | hq | hq | hq
    ·
     have e3' : wx.cell? ⟨wr.heap.size, 3, none⟩ = some (.int .i64 1) := by rw [<- hq]; exact e3
     have HAN := hid_of (answer_x m i j HX1.out HC.out hq)
     clear e3 hq hkk hk1
     go_wp2_with (go_at_call 174; refine HAN.out.mono ?_; rintro e w3 ⟨v3, rfl, rfl, part3, yv3, xs3, h3, hm3⟩; have H3 := hid_of h3; have HM3 := hid_of hm3; clear h3 hm3)
     go_roundw
     case rel => exact ⟨k + 1, part3, yv3, xs3, by omega, by go_num, by rw [HNEXT.out]; exact H3.out, (HMZ.out.trans HM1.out).trans HM3.out⟩
     case measure => simp [intOf]; omega
    ·
     have e3' : wx.cell? ⟨wr.heap.size, 3, none⟩ = some (.int .i64 2) := by rw [<- hq]; exact e3
     have HQ : Hid (m.kind = 2) := hq
     have HCC := hid_of (countCome_x j HX1.out HY.out ⟨hcame.1, by omega⟩)
     clear e3 hq hkk hk1
     go_upto_region 9 with (go_at_call 175; refine HCC.out.mono ?_; rintro e w1 ⟨v1, rfl, rfl, part1, xs1, h1, hm1⟩)
     have hl1 : xs1.length = xs'.length := h1.xlen
     have hW1 : (s'.W.set j { y with came := y.came + 1, black := true })[j]? = some { y with came := y.came + 1, black := true } := List.getElem?_set_self (List.getElem?_eq_some_iff.1 HY.out).1
     obtain ⟨x1, hx1⟩ : ∃ x1, xs1[j]? = some x1 := ⟨_, List.getElem?_eq_getElem (by omega)⟩
     have hac := h1.acell hx1
     obtain ⟨a1, f1⟩ := hac
     have h1' := h1
     rw [<- hl1] at h1'
     obtain ⟨xs2, h2, hm2, hk2⟩ := unask_x j h1' hW1
     rw [set_twice] at h2
     rw [hl1] at h2
     have b1 := HBX.out.kept hm1.kept (fun h => h hpx)
     obtain ⟨w2, hw2⟩ : ∃ w2, w1.setCell ⟨gw, j * 7 + 1, none⟩ (.bool false) = w2 := ⟨_, rfl⟩
     have hpg : part1 gw = 7 := h1.wrow.2 gw rfl
     rw [hw2] at h2 hm2 hk2
     have hp1 : wr.heap.size ≠ gw := by omega
     have b2 := b1.kept hk2 hp1
     have hl2 : xs2.length = xs'.length := h2.xlen
     obtain ⟨x2, hx2⟩ : ∃ x2, xs2[j]? = some x2 := ⟨_, List.getElem?_eq_getElem (by omega)⟩
     have t2 := h2.tcell hx2
     have t2' : ∀ o, (w2.alloc o).cell? ⟨gw, j * 7, none⟩ = some (.pointer (some ⟨x2.T, 0, none⟩)) := fun o => cell_alloc o t2
     have t2'' : ∀ o, (w2.drew.alloc o).cell? ⟨gw, j * 7, none⟩ = some (.pointer (some ⟨x2.T, 0, none⟩)) := fun o => cell_alloc (w := w2.drew) o t2
     have c4 := b2.cell (o := 4) rfl
     have c5 := b2.cell (o := 5) rfl
     have c6 := b2.cell (o := 6) rfl
     have HX2 := hid_of h2
     have HM2 := hid_of ((HM1.out.trans hm1).trans hm2)
     have hjW : j < s'.W.length := (List.getElem?_eq_some_iff.1 HY.out).1
     have HPT : Hid (∀ (U : World) (bb : Nat), U = (w2.drew).alloc (Obj.cells #[.string m.t.id, .int .i64 m.t.kind, .int .i64 m.t.arg] 76) -> bb = w2.heap.size -> Calls Tryz.prog 176 #[.pointer (some ⟨x2.T, 0, none⟩), .slice (some ⟨bb, 0, none⟩) 1 1] U fun e w' => ∃ v, e = .returned v /\ (v = .tuple #[] /\ ∃ part9, XAtO part9 w' B (cameS s' m) kv (.slice (some ⟨gw, 0, none⟩) xs'.length wc) yv' M xs2 /\ XMoved part part9 w w')) := fun U bb hU hbb => by
      subst hU hbb
      obtain ⟨h3, hm3⟩ := HX2.out.later (((Below.refl w2.heap.size w2).drew).alloc (by simp) (Obj.cells #[.string m.t.id, .int .i64 m.t.kind, .int .i64 m.t.arg] 76))
      refine (putTask_x j m.t w2.heap.size h3 hx2 (y := { y with came := y.came + 1, black := true, asked := false }) (List.getElem?_set_self hjW) hfew (BoxAt.new w2.drew _ _)).mono ?_
      rintro e w' ⟨v, rfl, rfl, part9, h9, hm9⟩
      refine ⟨_, rfl, rfl, part9, ?_, ((HMZ.out.trans HM2.out).trans hm3).trans hm9⟩
      rw [cameS2 HC.out HY.out HQ.out]
      dsimp only at h9
      rw [set_twice] at h9
      exact h9
     clear h1 hm1 h1' h2 hm2 b1 b2 hk2
     go_upto_region 10 with fail
     try rw [hw2]
     clear hw2 a1 f1
     go_region_law (refine step_call2 (by rfl) 176 _ _ _ (by rfl) (.pointer (some ⟨x2.T, 0, none⟩)) (.slice (some ⟨w2.heap.size, 0, none⟩) 1 1) (by rfl) (by rfl) (enters_of Tryz.func176 (by kernel_rfl) rfl) (HPT.out _ _ rfl rfl) ?_; rintro v9 w9 ⟨rfl, part9, h9, hm9⟩; have H9 := hid_of h9; have HM9 := hid_of hm9; clear h9 hm9)
     all_goals
      go_wp2_with fail
      go_roundw
      case rel => exact ⟨k + 1, part9, yv', xs2, by omega, by go_num, by rw [HNEXT.out]; exact H9.out, HM9.out⟩
      case measure => simp [intOf]; omega
    ·
     have e3' : wx.cell? ⟨wr.heap.size, 3, none⟩ = some (.int .i64 3) := by rw [<- hq]; exact e3
     obtain ⟨a1, f1⟩ := HX1.out.acell HX0.out
     obtain ⟨xs2, h2, hm2, -⟩ := unask_x j HX1.out HY.out
     rw [<- cameS3 HC.out HY.out hq] at h2
     have H2 := hid_of h2
     have HM2 := hid_of hm2
     clear e3 hq hkk hk1 h2 hm2
     go_wp2_with fail
     go_roundw
     case rel => exact ⟨k + 1, _, yv', xs2, by omega, by go_num, by rw [HNEXT.out]; exact H2.out, (HMZ.out.trans HM1.out).trans HM2.out⟩
     case measure => simp [intOf]; omega
    ·
     have e3' : wx.cell? ⟨wr.heap.size, 3, none⟩ = some (.int .i64 4) := by rw [<- hq]; exact e3
     have HQ : Hid (m.kind = 4) := hq
     have HCC := hid_of (countCome_x j HX1.out HY.out ⟨hcame.1, by omega⟩)
     clear e3 hq hkk hk1
     go_upto_region 15 with (go_at_call 175; refine HCC.out.mono ?_; rintro e w1 ⟨v1, rfl, rfl, part1, xs1, h1, hm1⟩)
     have b1 := HBX.out.kept hm1.kept (fun h => h hpx)
     have c7 := b1.cell (o := 7) rfl
     have c8 := b1.cell (o := 8) rfl
     have k5 : w1.cell? ⟨B, 5, none⟩ = some (.map (some M)) := h1.box.cell (o := 5) rfl
     have k5' : ∀ o, (w1.alloc o).cell? ⟨B, 5, none⟩ = some (.map (some M)) := fun o => cell_alloc o k5
     have k5'' : ∀ o, (w1.drew.alloc o).cell? ⟨B, 5, none⟩ = some (.map (some M)) := fun o => cell_alloc (w := w1.drew) o k5
     have HXK := hid_of h1
     have HMK := hid_of (HM1.out.trans hm1)
     have HKV : Hid (∀ (U : World) (bb : Nat), U = (w1.drew).alloc (Obj.cells #[.string m.v.1, .int .i64 m.v.2] 84) -> bb = w1.heap.size -> Calls Tryz.prog 65 #[.map (some M), .slice (some ⟨bb, 0, none⟩) 1 1] U fun e w' => ∃ v, e = .returned v /\ (∃ part9, XAtO part9 w' B (cameS s' m) kv (.slice (some ⟨gw, 0, none⟩) xs'.length wc) yv' M xs1 /\ XMoved part part9 w w')) := fun U bb hU hbb => by
      subst hU hbb
      obtain ⟨h3, hm3⟩ := HXK.out.later (((Below.refl w1.heap.size w1).drew).alloc (by simp) (Obj.cells #[.string m.v.1, .int .i64 m.v.2] 84))
      refine (keepVal_x m.v w1.heap.size h3 hvals HCAL.out.size HCAL.out.wf (BoxAt.new w1.drew _ _)).mono ?_
      rintro e w' ⟨v, rfl, part9, h9, hm9⟩
      refine ⟨_, rfl, part9, ?_, ((HMZ.out.trans HMK.out).trans hm3).trans hm9⟩
      rw [cameS4 HC.out HY.out HQ.out]
      exact h9
     clear h1 hm1 b1
     go_region_law (refine step_call2 (by rfl) 65 _ _ _ (by rfl) (.map (some M)) (.slice (some ⟨w1.heap.size, 0, none⟩) 1 1) (by rfl) (by rfl) (enters_of Tryz.func65 (by kernel_rfl) rfl) (HKV.out _ _ rfl rfl) ?_; rintro v9 w9 ⟨part9, h9, hm9⟩; have H9 := hid_of h9; have HM9 := hid_of hm9; clear h9 hm9)
     all_goals
      go_wp2_with fail
      go_roundw
      case rel => exact ⟨k + 1, part9, yv', xs1, by omega, by go_num, by rw [HNEXT.out]; exact H9.out, HM9.out⟩
      case measure => simp [intOf]; omega
  ·go_wp2_with fail
   go_end0
   obtain rfl : ms.length = k := by omega
   rw [List.take_length] at hx'
   exact ⟨_, rfl, rfl, part', yv', xs', hx', hmv'⟩
end Go.Proofs.YteahdfeialekbaaGreatDoor
