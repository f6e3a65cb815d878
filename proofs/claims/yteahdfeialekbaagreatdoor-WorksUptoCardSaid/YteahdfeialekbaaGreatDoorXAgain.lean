/-
  What stays true of a run as plain data, whatever is sent on its links.
-/
import Derived.Test.YteahdfeialekbaaGreatDoorRefCame5
import Derived.Test.YteahdfeialekbaaGreatDoorXSend
import Derived.Test.YteahdfeialekbaaGreatDoorXTaskPut
import Derived.Test.YteahdfeialekbaaGreatDoorRefWork2
import Derived.Test.YteahdfeialekbaaGreatDoorXOut
import Derived.RangeFuncNested
import Derived.Lib.SliceRun
namespace Go.Proofs.YteahdfeialekbaaGreatDoor
open Go Go.RowKit
def Known (s : RunS) : Prop := ∀ ls ∈ s.links, ∀ l ∈ ls, l.known.toNat <= l.all.length
theorem flat_set {α : Type} {sz : Nat} {enc : α -> List Value} (he : ∀ x, (enc x).length = sz) : ∀ (xs : List α) (k : Nat) (x x' : α) (i : Nat) (u : Value), xs[k]? = some x -> i < sz -> enc x' = (enc x).set i u -> (xs.flatMap enc).set (k * sz + i) u = (xs.set k x').flatMap enc
 | [], _, _, _, _, _, h, _, _ => by simp at h
 | y :: r, 0, x, x', i, u, h, hi, hx => by
  simp at h
  subst h
  rw [Nat.zero_mul, Nat.zero_add, List.flatMap_cons, List.set_append_left _ _ (by rw [he]; exact hi), <- hx]
  rfl
 | y :: r, k + 1, x, x', i, u, h, hi, hx => by
  have h1 := flat_set he r k x x' i u (by simpa using h) hi hx
  rw [List.flatMap_cons, List.set_append_right _ _ (by rw [he, Nat.succ_mul]; omega), he, show (k + 1) * sz + i - sz = k * sz + i by rw [Nat.succ_mul]; omega, h1]
  rfl
theorem sendS_post2 (s : RunS) (i j : Nat) (m : MsgS) (y : WorkerS) (hk : m.kind = 2 \/ m.kind = 4) (h0 : m.src = i) (h1 : m.dst = j) (hy : s.W[i]? = some y) : sendS s m = postS { s with W := s.W.set i { y with sent := y.sent + 1 } } i j m := by
 simp only [sendS, postS, LinkS.sent, hk, if_true, h0, h1, Int.toNat_natCast, hy, Option.getD_some]
theorem row_note {W : World} {gw wc : Nat} {xs : List XW} {i o : Nat} {x x' : XW} {u : Value} (hr : W.ownsRow 0 136 7 (.slice (some ⟨gw, 0, none⟩) xs.length wc) xs.length (xs.flatMap xwEnc)) (hx : xs[i]? = some x) (ho : o < 7) (he : xwEnc x' = (xwEnc x).set o u) :
  (W.setCell ⟨gw, i * 7 + o, none⟩ u).ownsRow 0 136 7 (.slice (some ⟨gw, 0, none⟩) xs.length wc) (xs.set i x').length ((xs.set i x').flatMap xwEnc) := by
 have hil := (List.getElem?_eq_some_iff.1 hx).1
 have h1 := row_putAll [u] (xs.flatMap xwEnc) (i * 7 + o) W hr (by simp; omega)
 have h2 : setAll (xs.flatMap xwEnc) (i * 7 + o) [u] = (xs.set i x').flatMap xwEnc := by
  simp only [setAll]
  exact flat_set (sz := 7) (enc := xwEnc) (fun _ => rfl) xs i x _ o _ hx ho he
 rw [h2] at h1
 rw [List.length_set]
 exact h1
set_option maxHeartbeats 4000000 in
set_option maxRecDepth 100000 in
theorem sendWork_x (i j : Nat) (m : MsgS) (b : Nat) {part : Nat -> Nat} {w : World} {B M : Nat} {s : RunS} {kv wv yv : Value} {xs : List XW} {ls : List LinkS} {l : LinkS} {y : WorkerS} (h : XAtO part w B s kv wv yv M xs) (hy : s.W[i]? = some y) (hls : s.links[i]? = some ls) (hl : ls[j]? = some l) (hij : j ≠ i) (hk : l.known.toNat <= l.all.length) (hn : l.all.length <= 100000000) (hw : s.way.length <= 1000) (hm : BoxAt w b 140 (msgCells m)) (hb : part b = 0) (hkind : m.kind = 2 \/ m.kind = 4) (hs : 0 <= y.sent /\ y.sent <= 1000000000) :
  Calls Tryz.prog 158 #[.pointer (some ⟨B, 0, none⟩), .int .i64 (i : Int), .int .i64 (j : Int), .slice (some ⟨b, 0, none⟩) 1 1] w fun e w' => ∃ v, e = .returned v /\ (v = .tuple #[] /\ ∃ part' yv' xs', XAtO part' w' B (sendS s { m with src := (i : Int), dst := (j : Int) }) kv wv yv' M xs' /\ XMoved part part' w w') := by
 have hil := (List.getElem?_eq_some_iff.1 hy).1
 have hxl := h.wlen
 obtain ⟨x, hx⟩ : ∃ x, xs[i]? = some x := ⟨_, List.getElem?_eq_getElem (by omega)⟩
 obtain ⟨gw, wc, hwf, -, hgw⟩ := World.ownsRow.form h.wrow.1 (by omega)
 subst hwf
 have hxw := h.wat i x y hx hy
 have b3 : w.cell? ⟨B, 3, none⟩ = some (.slice (some ⟨gw, 0, none⟩) xs.length wc) := h.box.cell (o := 3) rfl
 have a4 : w.cell? ⟨gw, i * 7 + 4, none⟩ = some (.int .i64 y.sent) := by
  have h1 := h.wrow.1.cells (g := gw) rfl (i * 7 + 4) _ (flat_get (sz := 7) (enc := xwEnc) (fun _ => rfl) xs i x 4 _ hx rfl)
  rw [addr_add, hxw.1.sent] at h1
  exact h1
 obtain ⟨cur, hcur⟩ : ∃ cur, BoxAt w gw 136 cur := by
  obtain ⟨cs, hcs⟩ := row_obj h.wrow.1 (g := gw) rfl
  exact ⟨cs, hcs⟩
 have f4 := hcur.frozen (i * 7 + 4)
 have hpg : part gw = 7 := h.wrow.2 gw rfl
 have hbg : b ≠ gw := fun e => by rw [e] at hb; omega
 obtain ⟨Y, hY⟩ : ∃ Y, w.setCell ⟨gw, i * 7 + 4, none⟩ (.int .i64 (y.sent + 1)) = Y := ⟨_, rfl⟩
 have kY : Kept (· = gw) w Y := by rw [<- hY]; exact (Kept.refl (· = gw) w).setCell (.inl (by rfl)) _
 have rY := row_note (x' := { x with sent := y.sent + 1 }) (u := .int .i64 (y.sent + 1)) (o := 4) h.wrow.1 hx (by omega) rfl
 rw [hY] at rY
 obtain ⟨h2, hm2⟩ := h.renote (x' := { x with sent := y.sent + 1 }) (y' := { y with sent := y.sent + 1 }) hx hy rfl ⟨hxw.1.asked, rfl, hxw.1.came, hxw.1.black⟩ ⟨rfl, rfl, rfl⟩ (kY.mono (fun b _ e => by subst e; exact hpg)) rY
 have hwr : IntKind.i64.wrap (y.sent + 1) = y.sent + 1 := IntWalk.i64_in _ (by omega)
 have i0 : (0 : Int) <= (i : Int) := by omega
 have i1 : (i : Int) < (xs.length : Int) := by omega
 have HSD : Hid (∀ U, (U = Y \/ U = Y.drew) -> Calls Tryz.prog 138 #[.pointer (some ⟨B, 0, none⟩), .int .i64 (i : Int), .int .i64 (j : Int), .slice (some ⟨b, 0, none⟩) 1 1] U fun e w' => ∃ v, e = .returned v /\ (v = .tuple #[] /\ ∃ part' yv' xs', XAtO part' w' B (sendS s { m with src := (i : Int), dst := (j : Int) }) kv (.slice (some ⟨gw, 0, none⟩) xs.length wc) yv' M xs' /\ XMoved part part' w w')) := fun U hU => by
  have hbU : Below Y.heap.size Y U := by
   rcases hU with rfl | rfl
   ·exact Below.refl _ _
   ·exact (Below.refl _ _).drew
  obtain ⟨h3, hm3⟩ := h2.later hbU
  have hbY := hm.kept kY hbg
  refine (send_x i j m b h3 hls hl hij hk hn hw (hbY.below hbU hbY.lt)).mono ?_
  rintro e w' ⟨v, rfl, rfl, part', yv', h4, hm4⟩
  refine ⟨_, rfl, rfl, part', yv', xs.set i { x with sent := y.sent + 1 }, ?_, (hm2.trans hm3).trans hm4⟩
  rw [sendS_post2 s i j { m with src := (i : Int), dst := (j : Int) } y hkind rfl rfl hy]
  exact h4
 clear h h2 hm2 hxw hcur rY kY hm
 go_enter Tryz.func158, Tryz.ntmps158
 go_wp2_with (go_at_call 138; refine (HSD.out _ (by first | exact .inl hY | exact .inl rfl | exact .inr rfl)).mono ?_; rintro e w3 ⟨v3, rfl, rfl, hres⟩; have HRES := hid_of hres; clear hres)
 go_end0
 exact ⟨_, rfl, rfl, HRES.out⟩
end Go.Proofs.YteahdfeialekbaaGreatDoor
namespace Go.Proofs.YteahdfeialekbaaGreatDoor
open Go Go.RowKit Go.Maps Go.WideMaps
set_option maxHeartbeats 1000000 in
set_option maxRecDepth 100000 in
theorem bring_calls (B M b : Nat) (D : DataW Unit) (cells : Array Value) (id : ByteArray) (v : Int) (w : World) (hB : BoxAt w B 127 cells) (h5 : cells[5]? = some (.map (some M))) (hm : MapIs w M D) (hn : Maps.size D < 1000000) (hid : id.size <= 1000000) (hv : (Lit.int .i64 v).wf = true)
  (c0 : w.cell? ⟨b, 0, none⟩ = some (.string id)) (c1 : w.cell? ⟨b, 1, none⟩ = some (.int .i64 v)) (hb : b < w.heap.size) :
  Calls Tryz.prog 131 #[.pointer (some ⟨B, 0, none⟩), .int .i64 0, .slice (some ⟨b, 0, none⟩) 1 1] w fun e w' => (∃ u, e = .returned u) /\ MapIs w' M (D.put (keyL id) (elemD v)) /\ Kept (· = M) w w' := by
 have HK := hid_of (keep_calls M b 0 D id v w hm hn hid hv c0 c1 hb)
 have b5 := hB.cell (o := 5) h5
 clear hB hm
 go_enter Tryz.func131, Tryz.ntmps131
 go_wp2_with (go_at_call 65; refine HK.out.mono ?_; rintro e w1 ⟨⟨u, rfl⟩, hm1, hk1⟩)
 refine bodyPost_ret (results_none rfl _ _ _) rfl ?_
 exact ⟨⟨_, rfl⟩, hm1, hk1⟩
def bringS (s : RunS) (k : Nat) (v : ByteArray × Int) : RunS := if k = 0 then { s with values := putS s.values v } else sendS s { msg0 with src := (k : Int), dst := 0, kind := 4, v := v }
theorem bringS_rest (s : RunS) (k : Nat) (v : ByteArray × Int) : (bringS s k v).kind = s.kind /\ (bringS s k v).arg = s.arg := by
 unfold bringS
 split
 ·exact ⟨rfl, rfl⟩
 ·unfold sendS wayS
  dsimp only
  constructor <;> (split <;> split <;> rfl)
theorem bring0_x (b : Nat) (id : ByteArray) (v : Int) {part : Nat -> Nat} {w : World} {B M : Nat} {s : RunS} {kv wv yv : Value} {xs : List XW} (h : XAtO part w B s kv wv yv M xs) (hv : s.values.length <= 900000) (hid : id.size <= 1000000) (hwf : (Lit.int .i64 v).wf = true) (hb : BoxAt w b 84 #[.string id, .int .i64 v]) :
  Calls Tryz.prog 131 #[.pointer (some ⟨B, 0, none⟩), .int .i64 0, .slice (some ⟨b, 0, none⟩) 1 1] w fun e w' => ∃ u, e = .returned u /\ ∃ part' yv' xs', XAtO part' w' B { s with values := putS s.values (id, v) } kv wv yv' M xs' /\ XMoved part part' w w' := by
 obtain ⟨D, hm, hpM, hDs⟩ := h.vals
 refine (bring_calls B M b D _ id v w h.box rfl hm (by omega) hid hwf (hb.cell (o := 0) rfl) (hb.cell (o := 1) rfl) hb.lt).mono ?_
 rintro e w' ⟨⟨u, rfl⟩, h1, h2⟩
 have htidy : Tidy D := World.ownsMap.tidy hm strKeyed
 have hsz : Maps.size (D.put (keyL id) (elemD v)) <= (putS s.values (id, v)).length := by
  rw [size_put htidy, putS_length]
  split <;> omega
 obtain ⟨h8, hm8⟩ := h.revals (vs := putS s.values (id, v)) h2 ⟨_, h1, hpM, hsz⟩
 exact ⟨u, rfl, _, _, _, h8, hm8⟩
set_option maxHeartbeats 4000000 in
set_option maxRecDepth 100000 in
theorem bring1_x (k b : Nat) (id : ByteArray) (v : Int) {part : Nat -> Nat} {w : World} {B M N : Nat} {s : RunS} {kv wv yv : Value} {xs : List XW} {y : WorkerS} (h : XAtO part w B s kv wv yv M xs) (hy : s.W[k]? = some y) (hk : k ≠ 0) (hs : Shaped s) (hN : Small N s) (hN' : N <= 90000000) (hkn : Known s) (hb : BoxAt w b 84 #[.string id, .int .i64 v]) :
  Calls Tryz.prog 131 #[.pointer (some ⟨B, 0, none⟩), .int .i64 (k : Int), .slice (some ⟨b, 0, none⟩) 1 1] w fun e w' => ∃ u, e = .returned u /\ ∃ part' yv' xs', XAtO part' w' B (sendS s { msg0 with src := (k : Int), dst := 0, kind := 4, v := (id, v) }) kv wv yv' M xs' /\ XMoved part part' w w' := by
 have hkl := (List.getElem?_eq_some_iff.1 hy).1
 obtain ⟨ls, hls⟩ : ∃ ls, s.links[k]? = some ls := ⟨_, List.getElem?_eq_getElem (by rw [hs.llen]; exact hkl)⟩
 have hlm := List.mem_of_getElem? hls
 obtain ⟨l, hl⟩ : ∃ l, ls[0]? = some l := ⟨_, List.getElem?_eq_getElem (by rw [hs.lrow ls hlm]; omega)⟩
 have hmm := List.mem_of_getElem? hl
 have hall := hN.all ls hlm l hmm
 have hknown := hkn ls hlm l hmm
 have hsent := hN.sent y (List.mem_of_getElem? hy)
 have hway := hs.way
 have c0 := hb.cell (o := 0) rfl
 have c1 := hb.cell (o := 1) rfl
 have hbl := hb.lt
 have hk0 : ((k : Int) == 0) = false := by rw [beq_eq_false_iff_ne]; omega
 have HSW : Hid (∀ (U : World) (bb : Nat), Below w.heap.size w U -> bb = U.heap.size -> Calls Tryz.prog 158 #[.pointer (some ⟨B, 0, none⟩), .int .i64 (k : Int), .int .i64 0, .slice (some ⟨bb, 0, none⟩) 1 1] (U.alloc (Obj.cells (msgCells { msg0 with kind := 4, v := (id, v) }) 140)) fun e w' => ∃ u, e = .returned u /\ (u = .tuple #[] /\ ∃ part' yv' xs', XAtO part' w' B (sendS s { msg0 with src := (k : Int), dst := 0, kind := 4, v := (id, v) }) kv wv yv' M xs' /\ XMoved part part' w w')) := fun U bb hU hbb => by
  subst hbb
  obtain ⟨h3, hm3⟩ := h.later (hU.alloc hU.size (Obj.cells (msgCells { msg0 with kind := 4, v := (id, v) }) 140))
  refine (sendWork_x k 0 { msg0 with kind := 4, v := (id, v) } U.heap.size h3 hy hls hl (fun e => hk e.symm) hknown (by omega) (by omega) (BoxAt.new U _ _) (ext_new hU.size) (.inr rfl) ⟨hsent.1, by omega⟩).mono ?_
  rintro e w' ⟨u, rfl, rfl, part', yv', xs', h4, hm4⟩
  exact ⟨_, rfl, rfl, part', yv', xs', h4, hm3.trans hm4⟩
 simp only [msg0] at HSW ⊢
 have HW0 : Hid (Below w.heap.size w w) := Below.refl _ _
 clear h hb
 go_enter Tryz.func131, Tryz.ntmps131
 go_wp2_with fail
 go_loopw [18] (fun iv wr => (iv = .int .i64 0 /\ Below w.heap.size w wr /\ wr.cell? ⟨b, 0, none⟩ = some (.string id) /\ wr.cell? ⟨b, 1, none⟩ = some (.int .i64 v)) \/ (iv = .int .i64 1 /\ ∃ part' yv' xs', XAtO part' wr B (sendS s { src := (k : Int), dst := 0, no := 0, kind := 4, t := ⟨⟨#[]⟩, 0, 0⟩, v := (id, v), black := false, idle := false, count := 0, round := 0, sent := 0, came := 0 }) kv wv yv' M xs' /\ XMoved part part' w wr)) (fun iv _ => 1 - (intOf iv).toNat)
 case atStart => exact .inl ⟨rfl, by first | exact Below.refl _ _ | exact (Below.refl _ _).drew, c0, c1⟩
 case round =>
  rename World => wr
  rcases hrel with ⟨rfl, hb0, d0, d1⟩ | ⟨rfl, hres⟩
  ·have HB0 := hid_of hb0
   clear hb0 c0 c1
   go_wp2_with (go_at_call 158; refine (HSW.out _ _ (by first | exact HB0.out | exact HB0.out.drew | exact (HB0.out.alloc HB0.out.size _) | exact ((HB0.out.alloc HB0.out.size _).drew)) (by simp)).mono ?_; rintro e w3 ⟨v3, rfl, rfl, hres⟩; have HRES := hid_of hres; clear hres)
   go_roundw
   case rel => exact .inr ⟨by go_num, HRES.out⟩
   case measure => simp [intOf]
  ·have HRES := hid_of hres
   clear hres
   go_wp2_with fail
   go_end0
   exact ⟨_, rfl, HRES.out⟩
theorem bring_x (k b : Nat) (id : ByteArray) (v : Int) {part : Nat -> Nat} {w : World} {B M N : Nat} {s : RunS} {kv wv yv : Value} {xs : List XW} {y : WorkerS} (h : XAtO part w B s kv wv yv M xs) (hy : s.W[k]? = some y) (hs : Shaped s) (hN : Small N s) (hN' : N <= 90000000) (hkn : Known s) (hv : s.values.length <= 900000) (hid : id.size <= 1000000) (hwf : (Lit.int .i64 v).wf = true) (hb : BoxAt w b 84 #[.string id, .int .i64 v]) :
  Calls Tryz.prog 131 #[.pointer (some ⟨B, 0, none⟩), .int .i64 (k : Int), .slice (some ⟨b, 0, none⟩) 1 1] w fun e w' => ∃ u, e = .returned u /\ ∃ part' yv' xs', XAtO part' w' B (bringS s k (id, v)) kv wv yv' M xs' /\ XMoved part part' w w' := by
 unfold bringS
 by_cases hk : k = 0
 ·subst hk
  exact bring0_x b id v h hv hid hwf hb
 ·rw [if_neg hk]
  exact bring1_x k b id v h hy hk hs hN hN' hkn hb
def doneS (s : RunS) (k : Nat) (x : WorkerS) (L : List TaskS) (t : TaskS) : RunS × Int :=
 if s.room < (L.length : Int) + ((children s.ks t).length : Int) then ({ s with over := true }, 6) else (bringS { s with W := s.W.set k { x with tasks := L ++ children s.ks t } } k (t.id, valueOf s.ks t), 0)
set_option maxHeartbeats 4000000 in
set_option maxRecDepth 100000 in
theorem doYoungest1_calls (F : Nat -> Prop) (B Br Bw k N : Nat) (s : RunS) (x : WorkerS) (L : List TaskS) (t : TaskS) (w : World) (hx : XOK F w B s) (hf : Fits s) (hs : Shaped s) (hN : Small N s) (hN' : N <= 90000000) (hkn : Known s) (hk : s.W[k]? = some x) (hk5 : k < 5) (hxt : x.tasks = L ++ [t]) (hv : s.values.length <= 900000) (hh : HeldAt w Br Bw B k) (hF : ¬ F Br /\ ¬ F Bw) :
  Calls Tryz.prog 127 #[.pointer (some ⟨Br, 0, none⟩), .pointer (some ⟨Bw, 0, none⟩)] w fun e w' => e = .returned (.int .i64 (doneS s k x L t).2) /\ XOK (fun b => F b \/ w.heap.size <= b) w' B (doneS s k x L t).1 /\ Kept F w w' := by
 have hgd := hf.good x (List.mem_of_getElem? hk) t (by rw [hxt]; simp)
 have hGd : Good s.ks t := hgd.1
 have h12 : t.arg <= 12 := hgd.2
 have hprog := hf.prog
 have hL20 : L.length <= 19 := by
  have h1 := hf.few x (List.mem_of_getElem? hk)
  have := hf.rmax
  rw [hxt] at h1
  simp at h1
  omega
 have hch3 : (children s.ks t).length <= 3 := children_length hprog t
 obtain ⟨part, kv, yv, g, c, M, T, xs, y, hpF, hO, hy, hyT, ht, hc, hkl⟩ := x_worker hx hk
 have HO := hid_of hO
 have hb := hO.box
 have hpB := hO.pB
 have hks := hO.kinds
 obtain ⟨D, hm, hpM, hDs⟩ := hO.vals
 clear hO
 rw [hxt] at ht
 obtain ⟨ka, kc, hkf, -⟩ := id hks
 subst hkf
 have b3 : w.cell? ⟨B, 3, none⟩ = some (.slice (some ⟨g, 0, none⟩) xs.length c) := hb.cell (o := 3) rfl
 have r0 := hh.1.cell (o := 0) rfl
 have i0 := hh.2.cell (o := 0) rfl
 have hc' : w.cell? ⟨g, k * 7, none⟩ = some (.pointer (some ⟨T, 0, none⟩)) := hc
 have j1 : (0 : Int) <= (k : Int) := by omega
 have j2 : (k : Int) < (xs.length : Int) := by omega
 obtain ⟨res, hres⟩ : ∃ res, doneS s k x L t = res := ⟨_, rfl⟩
 have HRES := hid_of hres
 rw [hres]
 have HB := hid_of hb
 have HKS := hid_of hks
 have HM := hid_of hm
 have HT := hid_of ht
 have HH := hid_of hh
 have HPF := hid_of hpF
 have HPB : Hid (part B = 1) := hpB
 have HPM : Hid (part M = 3) := hpM
 have HY : Hid (xs[k]? = some y) := hy
 have HYT : Hid (y.T = T) := hyT
 have HXT : Hid (x.tasks = L ++ [t]) := hxt
 have HKX : Hid (s.W[k]? = some x) := hk
 have HY0 : Hid (∀ U, Below w.heap.size w U -> Calls Tryz.prog 128 #[.pointer (some ⟨T, 0, none⟩)] U fun e w' => e = .returned (.agg #[.string t.id, .int .i64 t.kind, .int .i64 t.arg]) /\ Below w.heap.size w w') := fun U hU => by
  refine (youngest_calls (fun b => part b = 10 + k) T s.room L t U (ht.kept (Kept.of_below hU (X := fun b => w.heap.size <= b) (fun _ _ h => h)) (fun g hg h => ⟨by omega, h⟩)) (by omega)).mono ?_
  rintro e w' ⟨rfl, h1⟩
  exact ⟨rfl, hU.trans (h1.mono hU.size)⟩
 clear hx hb hks hm ht hh hpF hpB hpM hy hyT hxt hk hres hgd hc
 go_enter Tryz.func127, Tryz.ntmps127
 go_upto_region 1 with fail
 go_quiet (fail)
 go_upto_region 3 with (go_at_call 128; refine (HY0.out _ (below_drewN (Below.refl _ _) _)).mono ?_; rintro e w1 ⟨rfl, hb1⟩)
 obtain ⟨w2, hw2⟩ : ∃ w2, w1.alloc (Obj.cells #[.string t.id, .int .i64 t.kind, .int .i64 t.arg] 76) = w2 := ⟨_, rfl⟩
 have s1 := hb1.size
 have hb2 : Below w.heap.size w w2 := by rw [<- hw2]; exact hb1.alloc s1 _
 have HT2 : Hid (BoxAt w2 w1.heap.size 76 #[.string t.id, .int .i64 t.kind, .int .i64 t.arg]) := by rw [<- hw2]; exact BoxAt.new w1 _ _
 rw [hw2]
 clear hw2 hb1 b3 r0 i0 hc'
 have HB2 := hid_of hb2
 have s2 := hb2.size
 have HR2 := hid_of (HB.out.below hb2 HB.out.lt)
 have HH2 := hid_of (show HeldAt w2 Br Bw B k from ⟨HH.out.1.below hb2 HH.out.1.lt, HH.out.2.below hb2 HH.out.2.lt⟩)
 have hbl := HB.out.lt
 have hrl := HH.out.1.lt
 have r0 := HH2.out.1.cell (o := 0) rfl
 have b0 : w2.cell? ⟨B, 0, none⟩ = some (.slice ka s.ks.length kc) := HR2.out.cell (o := 0) rfl
 have b1 : w2.cell? ⟨B, 1, none⟩ = some (.int .i64 s.kind) := HR2.out.cell (o := 1) rfl
 have b2 : w2.cell? ⟨B, 2, none⟩ = some (.int .i64 s.arg) := HR2.out.cell (o := 2) rfl
 have x0 := HT2.out.cell (o := 0) rfl
 have x1 := HT2.out.cell (o := 1) rfl
 have x2 := HT2.out.cell (o := 2) rfl
 have HKU : Hid (∀ U, Below w.heap.size w U -> KindsAt (fun b => part b = 6 /\ b < w.heap.size) U (.slice ka s.ks.length kc) s.ks) := fun U hU => HKS.out.below.kept (Kept.of_below (X := fun b => w.heap.size <= b) hU (fun _ _ h => h)) (fun b h => by omega)
 have HCH : Hid (∀ U, Below w2.heap.size w2 U -> Calls Tryz.prog 130 #[.agg #[.slice ka s.ks.length kc, .int .i64 s.kind, .int .i64 s.arg], .agg #[.string t.id, .int .i64 t.kind, .int .i64 t.arg]] U fun e w' => ∃ v, e = .returned v /\ ∃ Bp Bt, v = .func (.func 156) #[] #[.pointer (some ⟨Bp, 0, none⟩), .pointer (some ⟨Bt, 0, none⟩)] /\ BoxAt w' Bp 42 #[.slice ka s.ks.length kc, .int .i64 s.kind, .int .i64 s.arg] /\ BoxAt w' Bt 76 #[.string t.id, .int .i64 t.kind, .int .i64 t.arg] /\ w2.heap.size <= Bp /\ w2.heap.size <= Bt /\ Below w2.heap.size w2 w') := fun U hU => by
  refine ((callsIn_wide (n := 5)).1 (children_in Fence.wide 5 trivial rfl ka s.ks.length kc s.kind s.arg t.id t.kind t.arg U)).mono ?_
  rintro e w' ⟨rfl, rfl⟩
  have hz := hU.size
  refine ⟨_, rfl, U.heap.size, U.heap.size + 1, rfl, (BoxAt.new U _ _).alloc _, boxAt_at _ _ _ _ (by simp), hz, by omega, (hU.alloc hU.size _).alloc (by simp; omega) _⟩
 have HRP : Hid (∀ U Bp Bt, Below w2.heap.size w2 U -> BoxAt U Bp 42 #[.slice ka s.ks.length kc, .int .i64 s.kind, .int .i64 s.arg] -> BoxAt U Bt 76 #[.string t.id, .int .i64 t.kind, .int .i64 t.arg] -> Calls Tryz.prog 129 #[.pointer (some ⟨T, 0, none⟩), .func (.func 156) #[] #[.pointer (some ⟨Bp, 0, none⟩), .pointer (some ⟨Bt, 0, none⟩)]] U fun e w' => ∃ v, e = .returned v /\ v = .bool (!decide (s.room < (L.length : Int) + (children s.ks t).length)) /\ Kept (fun b => part b = 10 + k /\ b < w.heap.size) w2 w' /\ (if s.room < (L.length : Int) + (children s.ks t).length then Below w2.heap.size w2 w' else TaskListAt (fun b => (part b = 10 + k /\ b < w.heap.size) \/ w2.heap.size <= b) w' T s.room (L ++ children s.ks t))) := fun U Bp Bt hU hBp hBt => by
  have hwU : Below w.heap.size w U := HB2.out.trans (hU.mono s2)
  have htU : TaskListAt (fun b => part b = 10 + k /\ b < w.heap.size) U T s.room (L ++ [t]) := HT.out.kept (Kept.of_below hwU (X := fun b => w.heap.size <= b) (fun _ _ h => h)) (fun g hg h => ⟨by omega, h, hg⟩)
  refine (replace_calls _ T s.room L (children s.ks t) t 156 #[.pointer (some ⟨Bp, 0, none⟩), .pointer (some ⟨Bt, 0, none⟩)] U htU (by omega) (by omega) (enters_of Tryz.func156 (by kernel_rfl) rfl) (fun n X U' W hU' hW hX => ?_)).mono ?_
  ·have hbUW : Below U.heap.size U W := hU'.trans (hW.mono hU'.size)
   have hbp := hBp.lt
   have hbt := hBt.lt
   have hz := hU'.size
   have hwz := hwU.size
   exact children1_seqY n Bp Bt X (fun b => part b = 6 /\ b < w.heap.size) ka kc s.kind s.arg s.ks t (children s.ks t) rfl W (hBp.below hbUW hbp) (hBt.below hbUW hbt) (HKU.out W (hwU.trans (hbUW.mono hwz))) (fun b h h' => by have := hX b h'; omega) (fun h' => by have := hX _ h'; omega) hprog hGd.1 hGd.2.1 hGd.2.2.1 h12 (by have := hGd.2.2.2; have := hGd.2.2.1; omega)
  ·rintro e w' ⟨rfl, h1, h2⟩
   have hz := hU.size
   refine ⟨_, rfl, rfl, (Kept.of_below hU (X := fun b => part b = 10 + k /\ b < w.heap.size) (fun b h1 h2 => by omega)).trans h1, ?_⟩
   split
   ·rename_i hlt; rw [if_pos hlt] at h2; exact hU.trans (h2.mono hz)
   ·rename_i hlt; rw [if_neg hlt] at h2; exact h2.kept (Kept.refl (fun _ => False) _) (fun g _ h => ⟨fun h => h, by omega⟩)
 obtain ⟨n, hn⟩ : ∃ n, (children s.ks t).length = n := ⟨_, rfl⟩
 have HN : Hid ((children s.ks t).length = n) := hn
 rw [hn] at HRP hch3
 clear hn hb2
 go_cut [23] (fun bv wx => bv = .bool (decide (s.room < (L.length : Int) + n)) /\ Kept (fun b => part b = 10 + k /\ b < w.heap.size) w2 wx /\ (if s.room < (L.length : Int) + n then Below w2.heap.size w2 wx else TaskListAt (fun b => (part b = 10 + k /\ b < w.heap.size) \/ w2.heap.size <= b) wx T s.room (L ++ children s.ks t)))
 case first =>
  go_region_law (first
   | (refine step_call2 (by rfl) 130 _ _ _ (by rfl) (.agg #[.slice ka s.ks.length kc, .int .i64 s.kind, .int .i64 s.arg]) (.agg #[.string t.id, .int .i64 t.kind, .int .i64 t.arg]) (by rfl) (by rfl) (enters_of Tryz.func130 (by kernel_rfl) rfl) (HCH.out _ (by first | assumption | exact Below.refl _ _ | exact (Below.refl _ _).drew | exact Below.drew (by assumption))) ?_; rintro v3 w3 ⟨Bp, Bt, rfl, hBp, hBt, hpl, htl', hb3⟩)
   | (refine step_call2 (by rfl) 129 _ _ _ (by rfl) (.pointer (some ⟨T, 0, none⟩)) (.func (.func 156) #[] #[.pointer (some ⟨Bp, 0, none⟩), .pointer (some ⟨Bt, 0, none⟩)]) (by rfl) (by rfl) (enters_of Tryz.func129 (by kernel_rfl) rfl) (HRP.out _ Bp Bt (by first | assumption | exact Below.drew (by assumption)) (by first | assumption | exact hBp) (by first | assumption | exact hBt)) ?_; rintro v4 w4 ⟨rfl, hk4, hif4⟩))
  all_goals
   go_wp2_with fail
   go_meet
   case rel => exact ⟨by simp, by first | exact hk4 | exact hk4.drew, by first | exact hif4 | (split <;> simp_all)⟩
 case rest =>
  obtain ⟨rfl, hk4, hif4⟩ := hcut
  rename World => w4
  have HK4 := hid_of hk4
  have s4 := hk4.size
  have hTl : T < w.heap.size := by obtain ⟨_, h, _⟩ := HT.out; exact h.lt
  have npB : ¬ (part B = 10 + k /\ B < w.heap.size) := fun h => by have := HPB.out; omega
  have hpr : part Br = 0 := by
   rcases Nat.eq_zero_or_pos (part Br) with h | h
   ·exact h
   ·exact absurd (HPF.out Br (by omega)) hF.1
  have hpw : part Bw = 0 := by
   rcases Nat.eq_zero_or_pos (part Bw) with h | h
   ·exact h
   ·exact absurd (HPF.out Bw (by omega)) hF.2
  have HR4 := hid_of (HR2.out.kept hk4 npB)
  have HH4 : Hid (HeldAt w4 Br Bw B k) := ⟨HH2.out.1.kept hk4 (by omega), HH2.out.2.kept hk4 (by omega)⟩
  have HT4 := hid_of (HT2.out.kept hk4 (by omega))
  have HK04 : Hid (Kept (fun b => part b = 10 + k /\ b < w.heap.size) w w4) := (Kept.of_below HB2.out (X := fun b => part b = 10 + k /\ b < w.heap.size) (fun b h1 h2 => by omega)).trans hk4
  have HKS4 := hid_of (HKS.out.below.kept HK04.out (fun b h1 h2 => by omega))
  have HM4 := hid_of (HM.out.kept HK04.out (fun h => by have := HPM.out; omega))
  have HML := HM.out.lt
  clear r0 b0 b1 b2 x0 x1 x2 hk4
  have r0 := HH4.out.1.cell (o := 0) rfl
  by_cases hlt : s.room < (L.length : Int) + (n : Int)
  ·have hd : decide (s.room < (L.length : Int) + (n : Int)) = true := decide_eq_true hlt
   rw [hd]
   rw [if_pos hlt] at hif4
   have hres : res = ({ s with over := true }, 6) := by rw [<- HRES.out]; unfold doneS; rw [HN.out, if_pos hlt]
   have HRS := hid_of hres
   have hwb : Below w.heap.size w w4 := HB2.out.trans (hif4.mono s2)
   have HWB := hid_of hwb
   have c6 := HR4.out.cell (o := 6) rfl
   have f6 := HR4.out.frozen 6
   clear hd hres hwb hif4
   go_wp2_with fail
   go_ret
   rw [HRS.out]
   have k5 : Kept (· = B) w (w4.setCell ⟨B, 6, none⟩ (.bool true)) := (Kept.of_below HWB.out (X := (· = B)) (fun b h1 h2 => by omega)).andThen ((Kept.refl (· = B) w4).setCell (.inl (by rfl)) _) (fun b _ h => h)
   obtain ⟨h8, hm8⟩ := HO.out.over k5 (HR4.out.setAt 6 _)
   obtain ⟨h9, hk9⟩ := hm8.okX h8 HPF.out
   exact ⟨rfl, h9, hk9⟩
  ·have hd : decide (s.room < (L.length : Int) + (n : Int)) = false := decide_eq_false hlt
   rw [hd]
   rw [if_neg hlt] at hif4
   have hres : res = (bringS { s with W := s.W.set k { x with tasks := L ++ children s.ks t } } k (t.id, valueOf s.ks t), 0) := by rw [<- HRES.out]; unfold doneS; rw [HN.out, if_neg hlt]
   have HRS := hid_of hres
   obtain ⟨h6, hm6⟩ := HO.out.later HB2.out
   have k7 : Kept (fun g => ext w part 0 g = 10 + k) w2 w4 := HK4.out.mono (fun b _ h => (ext_old h.2).trans h.1)
   obtain ⟨h7, hm7⟩ := h6.retasks (l := L ++ children s.ks t) HY.out HKX.out k7 (by
    rw [HYT.out]
    exact hif4.kept (Kept.refl (fun _ => False) w4) (fun b _ h => ⟨fun h => h, by
     rcases h with h | h
     ·exact .inl ⟨(ext_old h.2).trans h.1, by omega⟩
     ·exact .inr h⟩))
   have HH7 := hid_of h7
   have HM7 := hid_of (hm6.trans hm7)
   have i0 := HH4.out.2.cell (o := 0) rfl
   have b0 : w4.cell? ⟨B, 0, none⟩ = some (.slice ka s.ks.length kc) := HR4.out.cell (o := 0) rfl
   have b1 : w4.cell? ⟨B, 1, none⟩ = some (.int .i64 s.kind) := HR4.out.cell (o := 1) rfl
   have b2 : w4.cell? ⟨B, 2, none⟩ = some (.int .i64 s.arg) := HR4.out.cell (o := 2) rfl
   have x0 := HT4.out.cell (o := 0) rfl
   have x1 := HT4.out.cell (o := 1) rfl
   have x2 := HT4.out.cell (o := 2) rfl
   have HST : Hid (∀ U, Below w4.heap.size w4 U -> U.cell? ⟨Br, 0, none⟩ = some (.pointer (some ⟨B, 0, none⟩)) /\ U.cell? ⟨Bw, 0, none⟩ = some (.int .i64 k) /\ U.cell? ⟨B, 0, none⟩ = some (.slice ka s.ks.length kc) /\ U.cell? ⟨B, 1, none⟩ = some (.int .i64 s.kind) /\ U.cell? ⟨B, 2, none⟩ = some (.int .i64 s.arg) /\ U.cell? ⟨w1.heap.size, 0, none⟩ = some (.string t.id) /\ U.cell? ⟨w1.heap.size, 1, none⟩ = some (.int .i64 t.kind) /\ U.cell? ⟨w1.heap.size, 2, none⟩ = some (.int .i64 t.arg)) := fun U hU =>
    ⟨(hU.cell (p := ⟨Br, 0, none⟩) HH4.out.1.lt).trans r0, (hU.cell (p := ⟨Bw, 0, none⟩) HH4.out.2.lt).trans i0, (hU.cell (p := ⟨B, 0, none⟩) HR4.out.lt).trans b0, (hU.cell (p := ⟨B, 1, none⟩) HR4.out.lt).trans b1, (hU.cell (p := ⟨B, 2, none⟩) HR4.out.lt).trans b2,
     (hU.cell (p := ⟨w1.heap.size, 0, none⟩) HT4.out.lt).trans x0, (hU.cell (p := ⟨w1.heap.size, 1, none⟩) HT4.out.lt).trans x1, (hU.cell (p := ⟨w1.heap.size, 2, none⟩) HT4.out.lt).trans x2⟩
   have HVA : Hid (∀ U, Below w4.heap.size w4 U -> Calls Tryz.prog 66 #[.agg #[.slice ka s.ks.length kc, .int .i64 s.kind, .int .i64 s.arg], .agg #[.string t.id, .int .i64 t.kind, .int .i64 t.arg]] U fun e w' => e = .returned (.agg #[.string t.id, .int .i64 (valueOf s.ks t)]) /\ Below w4.heap.size w4 w') := fun U hU => by
    refine (value_calls (.slice ka s.ks.length kc) s.kind s.arg s.ks t _ U (HKS4.out.kept (Kept.of_below (X := fun b => w4.heap.size <= b) hU (fun _ _ h => h)) (fun b h => by omega)) hprog hGd.1 hGd.2.1 hGd.2.2.1 h12).mono ?_
    rintro e w' ⟨rfl, h1⟩
    exact ⟨rfl, hU.trans (h1.mono hU.size)⟩
   have HBR : Hid (∀ (U : World) (bb : Nat), Below w4.heap.size w4 U -> bb = U.heap.size -> Calls Tryz.prog 131 #[.pointer (some ⟨B, 0, none⟩), .int .i64 (k : Int), .slice (some ⟨bb, 0, none⟩) 1 1] (U.alloc (Obj.cells #[.string t.id, .int .i64 (valueOf s.ks t)] 84)) fun e w' => ∃ u, e = .returned u /\ XOK (fun b => F b \/ w.heap.size <= b) w' B (bringS { s with W := s.W.set k { x with tasks := L ++ children s.ks t } } k (t.id, valueOf s.ks t)) /\ Kept F w w' /\
     (w'.cell? ⟨Br, 0, none⟩ = some (.pointer (some ⟨B, 0, none⟩)) /\ w'.cell? ⟨Bw, 0, none⟩ = some (.int .i64 k) /\ w'.cell? ⟨B, 0, none⟩ = some (.slice ka s.ks.length kc) /\ w'.cell? ⟨B, 1, none⟩ = some (.int .i64 s.kind) /\ w'.cell? ⟨B, 2, none⟩ = some (.int .i64 s.arg) /\ w'.cell? ⟨w1.heap.size, 0, none⟩ = some (.string t.id) /\ w'.cell? ⟨w1.heap.size, 1, none⟩ = some (.int .i64 t.kind) /\ w'.cell? ⟨w1.heap.size, 2, none⟩ = some (.int .i64 t.arg))) := fun U bb hU hbb => by
    subst hbb
    have hA : Below w4.heap.size w4 (U.alloc (Obj.cells #[.string t.id, .int .i64 (valueOf s.ks t)] 84)) := hU.alloc hU.size _
    obtain ⟨h8, hm8⟩ := HH7.out.later hA
    have hkl' := (List.getElem?_eq_some_iff.1 HKX.out).1
    have hWl : (s.W.set k { x with tasks := L ++ children s.ks t }).length = s.W.length := List.length_set ..
    have hmem : ∀ z ∈ s.W.set k { x with tasks := L ++ children s.ks t }, ∃ z' ∈ s.W, z.sent = z'.sent /\ z.came = z'.came := fun z hz => by
     rcases List.mem_or_eq_of_mem_set hz with h' | rfl
     ·exact ⟨z, h', rfl, rfl⟩
     ·exact ⟨x, List.mem_of_getElem? HKX.out, rfl, rfl⟩
    refine (bring_x k U.heap.size t.id (valueOf s.ks t) h8 (y := { x with tasks := L ++ children s.ks t }) (List.getElem?_set_self hkl') ⟨by show ((s.W.set k _).length : Int) = _; rw [hWl]; exact hs.len, hs.two, hs.five, by show s.links.length = (s.W.set k _).length; rw [hWl]; exact hs.llen, fun ls h => by show ls.length = (s.W.set k _).length; rw [hWl]; exact hs.lrow ls h, hs.way⟩
     ⟨hN.all, hN.known, hN.came, hN.kept, fun z hz => by obtain ⟨z', h1, h2, h3⟩ := hmem z hz; rw [h2]; exact hN.sent z' h1, fun z hz => by obtain ⟨z', h1, h2, h3⟩ := hmem z hz; rw [h3]; exact hN.got z' h1⟩ hN' hkn hv (by have := hGd.2.2.2; have := hGd.2.2.1; omega) (valueOf_wf hprog hGd) (BoxAt.new U _ _)).mono ?_
    rintro e w' ⟨u, rfl, part', yv', xs', h9, hm9⟩
    have hmA := (HM7.out.trans hm8).trans hm9
    obtain ⟨h10, hk10⟩ := hmA.okX h9 HPF.out
    have hmB := (hm8.trans hm9).kept
    have hst := HST.out _ hA
    have hw12 := HT2.out.lt
    have hbl2 := HH.out.2.lt
    have n1 : ¬ (ext w2 (ext w part 0) (10 + k) Br ≠ 0) := fun h => h ((ext_old (by omega)).trans ((ext_old hrl).trans hpr))
    have n2 : ¬ (ext w2 (ext w part 0) (10 + k) Bw ≠ 0) := fun h => h ((ext_old (by omega)).trans ((ext_old hbl2).trans hpw))
    have n3 : ¬ (ext w2 (ext w part 0) (10 + k) w1.heap.size ≠ 0) := fun h => h ((ext_old hw12).trans (ext_new s1))
    have hr := bringS_rest { s with W := s.W.set k { x with tasks := L ++ children s.ks t } } k (t.id, valueOf s.ks t)
    refine ⟨u, rfl, h10, hk10, (hmB.cell (p := ⟨Br, 0, none⟩) HH4.out.1.lt n1).trans r0, (hmB.cell (p := ⟨Bw, 0, none⟩) HH4.out.2.lt n2).trans i0, h9.box.cell (o := 0) rfl, ?_, ?_, (hmB.cell (p := ⟨w1.heap.size, 0, none⟩) HT4.out.lt n3).trans x0, (hmB.cell (p := ⟨w1.heap.size, 1, none⟩) HT4.out.lt n3).trans x1, (hmB.cell (p := ⟨w1.heap.size, 2, none⟩) HT4.out.lt n3).trans x2⟩
    ·have h11 : w'.cell? ⟨B, 1, none⟩ = some (.int .i64 (bringS { s with W := s.W.set k { x with tasks := L ++ children s.ks t } } k (t.id, valueOf s.ks t)).kind) := h9.box.cell (o := 1) rfl
     rw [hr.1] at h11
     exact h11
    ·have h11 : w'.cell? ⟨B, 2, none⟩ = some (.int .i64 (bringS { s with W := s.W.set k { x with tasks := L ++ children s.ks t } } k (t.id, valueOf s.ks t)).arg) := h9.box.cell (o := 2) rfl
     rw [hr.2] at h11
     exact h11
   clear hd hres hif4 h6 hm6 h7 hm7 k7
   go_upto_region 6 with fail
   go_region_held3 (fun U => U.cell? ⟨Br, 0, none⟩ = some (.pointer (some ⟨B, 0, none⟩)) /\ U.cell? ⟨Bw, 0, none⟩ = some (.int .i64 k) /\ U.cell? ⟨B, 0, none⟩ = some (.slice ka s.ks.length kc) /\ U.cell? ⟨B, 1, none⟩ = some (.int .i64 s.kind) /\ U.cell? ⟨B, 2, none⟩ = some (.int .i64 s.arg) /\ U.cell? ⟨w1.heap.size, 0, none⟩ = some (.string t.id) /\ U.cell? ⟨w1.heap.size, 1, none⟩ = some (.int .i64 t.kind) /\ U.cell? ⟨w1.heap.size, 2, none⟩ = some (.int .i64 t.arg))
    (first | assumption | (exact HST.out _ (by assumption)) | (exact HST.out _ (Below.refl _ _)) | (exact HST.out _ (Below.refl _ _).drew) | (exact HST.out _ (below_alloc (by assumption) _)))
    (first
    | (go_at_call 66; refine (HVA.out _ (by first | assumption | exact Below.refl _ _ | exact (Below.refl _ _).drew)).mono ?_; rintro e w5 ⟨rfl, hb5⟩)
    | (go_at_call 131; refine (HBR.out _ _ (by first | assumption) rfl).mono ?_; rintro e w6 ⟨u6, rfl, hx6, hk6, hst6⟩))
   all_goals
    go_wp2_with fail
    go_ret
    rw [HRS.out]
    exact ⟨rfl, hx6, hk6⟩
end Go.Proofs.YteahdfeialekbaaGreatDoor
namespace Go.Proofs.YteahdfeialekbaaGreatDoor
open Go Go.RowKit Go.Maps
theorem ask_nil (v : Value) (w : World) : Calls Tryz.prog 72 #[.pointer none, v] w fun e w' => e = .returned (.int .i64 1) /\ w' = w := by
 go_enter Tryz.func72, Tryz.ntmps72
 go_wp2_with fail
 go_ret
 exact ⟨rfl, rfl⟩
theorem ask_calls (B : Nat) (v : Value) (w : World) (R : Int -> World -> Prop) (h : Calls Tryz.prog 119 #[v] w fun e w' => ∃ r, e = .returned (.int .i64 r) /\ R r w') :
  Calls Tryz.prog 72 #[.pointer (some ⟨B, 0, none⟩), v] w fun e w' => ∃ r, e = .returned (.int .i64 r) /\ R r w' := by
 have H := hid_of h
 clear h
 go_enter Tryz.func72, Tryz.ntmps72
 go_wp2_with (go_at_call 119; refine H.out.mono ?_; rintro e w1 ⟨r, rfl, hr⟩)
 go_ret
 exact ⟨r, rfl, hr⟩
theorem change1_calls (Bs : Nat) (v : Value) (w : World) (R : Int -> World -> Prop) (hb : BoxAt w Bs 175 #[v]) (h : Calls Tryz.prog 119 #[v] w fun e w' => ∃ r, e = .returned (.int .i64 r) /\ R r w') :
  Calls Tryz.prog 124 #[.pointer (some ⟨Bs, 0, none⟩)] w fun e w' => ∃ r, e = .returned (.int .i64 r) /\ R r w' := by
 have H := hid_of h
 have b0 := hb.cell (o := 0) rfl
 clear h hb
 go_enter Tryz.func124, Tryz.ntmps124
 go_wp2_with (go_at_call 119; refine H.out.mono ?_; rintro e w1 ⟨r, rfl, hr⟩)
 go_ret
 exact ⟨r, rfl, hr⟩
theorem change_nil (g n : Nat) (w : World) : Calls Tryz.prog 76 #[.pointer none, .slice (some ⟨g, 0, none⟩) n n] w fun e w' => e = .returned (.int .i64 1) /\ Below w.heap.size w w' := by
 go_enter Tryz.func76, Tryz.ntmps76
 go_wp2_with (go_at_call 72; refine (ask_nil _ _).mono ?_; rintro e w1 ⟨rfl, rfl⟩)
 go_ret
 exact ⟨rfl, ((Below.refl _ _).alloc (Nat.le_refl _) _).alloc (by simp) _⟩
set_option maxHeartbeats 1000000 in
set_option maxRecDepth 100000 in
theorem change_calls (F : Nat -> Prop) (B g n : Nat) (s : RunS) (w : World) (hx : XOK F w B s) (R : Int -> World -> Prop) (h : s.over = false -> ∀ U, Below w.heap.size w U -> Calls Tryz.prog 119 #[.slice (some ⟨g, 0, none⟩) n n] U fun e w' => ∃ r, e = .returned (.int .i64 r) /\ R r w') :
  Calls Tryz.prog 76 #[.pointer (some ⟨B, 0, none⟩), .slice (some ⟨g, 0, none⟩) n n] w fun e w' => ∃ r, e = .returned (.int .i64 r) /\ ((s.over = true /\ r = 6 /\ Below w.heap.size w w') \/ (s.over = false /\ R r w')) := by
 obtain ⟨V, hV⟩ : ∃ V, (w.alloc (Obj.cells #[.slice (some ⟨g, 0, none⟩) n n] 175)).alloc (Obj.cells #[.func (.func 123) #[.pointer (some ⟨B, 0, none⟩)] #[], .func (.func 124) #[] #[.pointer (some ⟨w.heap.size, 0, none⟩)]] 129) = V := ⟨_, rfl⟩
 have hbV : Below w.heap.size w V := by rw [<- hV]; exact ((Below.refl _ _).alloc (Nat.le_refl _) _).alloc (by simp) _
 have bS : BoxAt V w.heap.size 175 #[.slice (some ⟨g, 0, none⟩) n n] := by rw [<- hV]; exact (BoxAt.new w _ _).alloc _
 have bL : BoxAt V (w.heap.size + 1) 129 #[.func (.func 123) #[.pointer (some ⟨B, 0, none⟩)] #[], .func (.func 124) #[] #[.pointer (some ⟨w.heap.size, 0, none⟩)]] := by rw [<- hV]; exact boxAt_at _ _ _ _ (by simp)
 have HT := hid_of (ask_calls B (.slice (some ⟨w.heap.size + 1, 0, none⟩) 2 2) V (fun r w' => (s.over = true /\ r = 6 /\ Below w.heap.size w w') \/ (s.over = false /\ R r w')) (by
  refine (inTurn_calls (w.heap.size + 1) 2 2 [(123, #[.pointer (some ⟨B, 0, none⟩)], #[]), (124, #[], #[.pointer (some ⟨w.heap.size, 0, none⟩)])] V rfl (by omega)
   (fun i W => if i = 0 then Below V.heap.size V W else if i = 1 then Below V.heap.size V W /\ s.over = false else s.over = false /\ R 0 W)
   (fun r W => (s.over = true /\ r = 6 /\ Below w.heap.size w W) \/ (s.over = false /\ R r W)) ?_ ?_ ?_ ?_).mono ?_
  ·intro i W hJ f hf
   match i, hf with
   | 0, hf => cases hf; simp only [if_true] at hJ; exact (bL.below hJ bL.lt).cell (o := 0) rfl
   | 1, hf => cases hf; simp only [Nat.one_ne_zero, if_false, if_true] at hJ; exact (bL.below hJ.1 bL.lt).cell (o := 1) rfl
   | (m + 2), hf => simp at hf
  ·intro f hf args W
   simp at hf
   rcases hf with rfl | rfl
   ·exact enters_of Tryz.func123 (by kernel_rfl) rfl args W
   ·exact enters_of Tryz.func124 (by kernel_rfl) rfl args W
  ·intro i f hf W hJ
   match i, hf with
   | 0, hf =>
    cases hf
    simp only [if_true] at hJ
    refine (hadRoom_calls F B s W ((hx.later hbV).later hJ)).mono ?_
    rintro e w' ⟨rfl, rfl⟩
    cases ho : s.over
    ·exact ⟨0, rfl, .inl ⟨rfl, by simpa [ho] using hJ⟩⟩
    ·exact ⟨6, rfl, .inr ⟨by omega, .inl ⟨rfl, rfl, hbV.trans (hJ.mono hbV.size)⟩⟩⟩
   | 1, hf =>
    cases hf
    simp only [Nat.one_ne_zero, if_false, if_true] at hJ
    refine (change1_calls w.heap.size _ W R (bS.below hJ.1 bS.lt) (h hJ.2 W (hbV.trans (hJ.1.mono hbV.size)))).mono ?_
    rintro e w' ⟨r, rfl, hr⟩
    by_cases hr0 : r = 0
    ·subst hr0
     exact ⟨0, rfl, .inl ⟨rfl, by simpa using ⟨hJ.2, hr⟩⟩⟩
    ·exact ⟨r, rfl, .inr ⟨hr0, .inr ⟨hJ.2, hr⟩⟩⟩
   | (m + 2), hf => simp at hf
  ·exact Below.refl _ _
  ·rintro e w' ⟨r, rfl, hr⟩
   refine ⟨r, rfl, ?_⟩
   rcases hr with ⟨rfl, h2⟩ | ⟨_, h2⟩
   ·simp only [show ¬ (2 : Nat) = 0 by omega, show ¬ (2 : Nat) = 1 by omega, if_false] at h2
    exact .inr h2
   ·exact h2))
 clear h hx
 go_enter Tryz.func76, Tryz.ntmps76
 go_wp2_with (go_at_call 72; refine HT.out.mono ?_; rintro e w1 ⟨r, rfl, hr⟩)
 go_ret
 exact ⟨r, rfl, hr⟩
theorem Calls.at_world {P : Program} {f : Nat} {args : Array Value} {w w' : World} {Q : Ending -> World -> Prop} (h : w = w') (hc : Calls P f args w' Q) : Calls P f args w Q := by subst h; exact hc
theorem workS_done1 {s : RunS} {k : Nat} {x : WorkerS} {L : List TaskS} {t : TaskS} (hw : workerE s (k : Int) = 0) (hk : s.W[k]? = some x) (hxt : x.tasks = L ++ [t]) : workS s (k : Int) = doneS s k x L t := by
 simp only [workS, hw, ne_eq, not_true_eq_false, if_false, Int.toNat_natCast, hk, hxt, List.getLast?_append, List.getLast?_singleton, Option.some_or, List.length_append, List.length_singleton, List.dropLast_concat, doneS, bringS]
 have e : ((L.length + 1 : Nat) : Int) - 1 + ((children s.ks t).length : Int) = (L.length : Int) + ((children s.ks t).length : Int) := by omega
 rw [e]
 by_cases h : k = 0
 ·subst h; simp
 ·simp [h]
theorem XOK.low {F : Nat -> Prop} {w : World} {B : Nat} {s : RunS} (h : XOK F w B s) : XOK (fun b => F b /\ b < w.heap.size) w B s := h.kept (Kept.refl (fun _ => False) w) (fun _ hg hF => ⟨fun h => h, hF, hg⟩)
theorem XOK.mono {F F' : Nat -> Prop} {w : World} {B : Nat} {s : RunS} (h : XOK F w B s) (hF : ∀ b, b < w.heap.size -> F b -> F' b) : XOK F' w B s := h.kept (Kept.refl (fun _ => False) w) (fun b hb h => ⟨fun h => h, hF b hb h⟩)
set_option maxHeartbeats 2000000 in
set_option maxRecDepth 100000 in
theorem x_work_nil (i : Int) (w : World) : Calls Tryz.prog 33 #[.pointer none, .int .i64 i] w fun e w' => e = .returned (.int .i64 1) /\ Below w.heap.size w w' := by
 go_enter Tryz.func33, Tryz.ntmps33
 go_wp2_with (first
  | (go_at_call 73; refine (isWorker_calls none i w).mono ?_; rintro e w1 ⟨rfl, hw1⟩; have HW1 := hid_of hw1; clear hw1)
  | (go_at_call 77; refine (hasTask_calls none i w1).mono ?_; rintro e w2 ⟨rfl, hw2⟩; have HW2 := hid_of hw2; clear hw2)
  | (go_at_call 78; refine (doYoungest_calls none i w2).mono ?_; rintro e w3 ⟨rfl, hw3⟩; have HW3 := hid_of hw3; clear hw3)
  | (go_at_call 76; refine (change_nil _ _ _).mono ?_; rintro e w4 ⟨rfl, hb4⟩))
 go_ret
 refine ⟨rfl, ?_⟩
 have h1 : Below w.heap.size w w1 := by rw [HW1.out]; exact ((Below.refl _ _).alloc (Nat.le_refl _) _).alloc (by simp) _
 have h2 : Below w1.heap.size w1 w2 := by rw [HW2.out]; exact ((Below.refl _ _).alloc (Nat.le_refl _) _).alloc (by simp) _
 have h3 : Below w2.heap.size w2 w3 := by rw [HW3.out]; exact ((Below.refl _ _).alloc (Nat.le_refl _) _).alloc (by simp) _
 have e1 := h1.size
 have e2 := h2.size
 have e3 := h3.size
 exact (((h1.trans (h2.mono e1)).trans (h3.mono (by omega))).alloc (by omega) _).trans (hb4.mono (by simp; omega))
set_option maxHeartbeats 4000000 in
set_option maxRecDepth 100000 in
theorem x_work_calls (F : Nat -> Prop) (B N : Nat) (s : RunS) (i : Int) (w : World) (hx : XOK F w B s) (hf : Fits s) (hsh : Shaped s) (hN : Small N s) (hN' : N <= 90000000) (hkn : Known s) (hd : s.done = false) (hv : s.values.length <= 900000) :
  Calls Tryz.prog 33 #[.pointer (some ⟨B, 0, none⟩), .int .i64 i] w fun e w' => e = .returned (.int .i64 (workS s i).2) /\ XOK (fun b => F b \/ w.heap.size <= b) w' B (workS s i).1 /\ Kept F w w' := by
 have hx0 := hx.low
 obtain ⟨w1, hw1⟩ : ∃ w1, (w.alloc (Obj.cells #[.pointer (some ⟨B, 0, none⟩)] 37)).alloc (Obj.cells #[.int .i64 i] 3) = w1 := ⟨_, rfl⟩
 obtain ⟨w2, hw2⟩ : ∃ w2, (w1.alloc (Obj.cells #[.pointer (some ⟨B, 0, none⟩)] 37)).alloc (Obj.cells #[.int .i64 i] 3) = w2 := ⟨_, rfl⟩
 obtain ⟨w3, hw3⟩ : ∃ w3, (w2.alloc (Obj.cells #[.pointer (some ⟨B, 0, none⟩)] 37)).alloc (Obj.cells #[.int .i64 i] 3) = w3 := ⟨_, rfl⟩
 obtain ⟨w4, hw4⟩ : ∃ w4, w3.alloc (Obj.cells #[stepVal (120, #[], #[.pointer (some ⟨w.heap.size + 1, 0, none⟩), .pointer (some ⟨w.heap.size, 0, none⟩)]), stepVal (125, #[], #[.pointer (some ⟨w1.heap.size, 0, none⟩), .pointer (some ⟨w1.heap.size + 1, 0, none⟩)]), stepVal (127, #[], #[.pointer (some ⟨w2.heap.size, 0, none⟩), .pointer (some ⟨w2.heap.size + 1, 0, none⟩)])] 129) = w4 := ⟨_, rfl⟩
 have g1 : Below w.heap.size w w1 := by rw [<- hw1]; exact ((Below.refl _ _).alloc (Nat.le_refl _) _).alloc (by simp) _
 have g2 : Below w1.heap.size w1 w2 := by rw [<- hw2]; exact ((Below.refl _ _).alloc (Nat.le_refl _) _).alloc (by simp) _
 have g3 : Below w2.heap.size w2 w3 := by rw [<- hw3]; exact ((Below.refl _ _).alloc (Nat.le_refl _) _).alloc (by simp) _
 have g4 : Below w3.heap.size w3 w4 := by rw [<- hw4]; exact (Below.refl _ _).alloc (Nat.le_refl _) _
 have z1 : w1.heap.size = w.heap.size + 2 := by rw [<- hw1]; simp
 have z2 : w2.heap.size = w1.heap.size + 2 := by rw [<- hw2]; simp
 have z3 : w3.heap.size = w2.heap.size + 2 := by rw [<- hw3]; simp
 have z4 : w4.heap.size = w3.heap.size + 1 := by rw [<- hw4]; simp
 have hA : HeldAt w4 w.heap.size (w.heap.size + 1) B i := by
  have h : HeldAt w1 w.heap.size (w.heap.size + 1) B i := ⟨by rw [<- hw1]; exact (BoxAt.new w _ _).alloc _, by rw [<- hw1]; exact boxAt_at _ _ _ _ (by simp)⟩
  exact ((h.below g2).below g3).below g4
 have hB : HeldAt w4 w1.heap.size (w1.heap.size + 1) B i := by
  have h : HeldAt w2 w1.heap.size (w1.heap.size + 1) B i := ⟨by rw [<- hw2]; exact (BoxAt.new w1 _ _).alloc _, by rw [<- hw2]; exact boxAt_at _ _ _ _ (by simp)⟩
  exact (h.below g3).below g4
 have hC : HeldAt w4 w2.heap.size (w2.heap.size + 1) B i := by
  have h : HeldAt w3 w2.heap.size (w2.heap.size + 1) B i := ⟨by rw [<- hw3]; exact (BoxAt.new w2 _ _).alloc _, by rw [<- hw3]; exact boxAt_at _ _ _ _ (by simp)⟩
  exact h.below g4
 have bL : BoxAt w4 w3.heap.size 129 #[stepVal (120, #[], #[.pointer (some ⟨w.heap.size + 1, 0, none⟩), .pointer (some ⟨w.heap.size, 0, none⟩)]), stepVal (125, #[], #[.pointer (some ⟨w1.heap.size, 0, none⟩), .pointer (some ⟨w1.heap.size + 1, 0, none⟩)]), stepVal (127, #[], #[.pointer (some ⟨w2.heap.size, 0, none⟩), .pointer (some ⟨w2.heap.size + 1, 0, none⟩)])] := by rw [<- hw4]; exact BoxAt.new w3 _ _
 have hb4 : Below w.heap.size w w4 := (((g1.trans (g2.mono (by omega))).trans (g3.mono (by omega))).trans (g4.mono (by omega)))
 have hx4 : XOK (fun b => F b /\ b < w.heap.size) w4 B s := hx0.later hb4
 have hlen := hf.len
 have hfit := hf
 have key : Calls Tryz.prog 76 #[.pointer (some ⟨B, 0, none⟩), .slice (some ⟨w3.heap.size, 0, none⟩) 3 3] w4 fun e w' => ∃ r, e = .returned (.int .i64 r) /\ r = (workS s i).2 /\ XOK (fun b => F b \/ w.heap.size <= b) w' B (workS s i).1 /\ Kept F w w' := by
  refine (change_calls _ B w3.heap.size 3 s w4 hx4 (fun r w' => r = (workS s i).2 /\ XOK (fun b => F b \/ w.heap.size <= b) w' B (workS s i).1 /\ Kept F w w') (fun hov U hU => ?_)).mono ?_
  ·have hwU : Below w.heap.size w U := hb4.trans (hU.mono hb4.size)
   have hxU : XOK (fun b => F b /\ b < w.heap.size) U B s := hx4.later hU
   have hstart : startE s = 0 := by simp [startE, hd, hov]
   have keepU : ∀ W, Below U.heap.size U W -> (∀ r, workS s i = (s, r) -> (workS s i).2 = r /\ XOK (fun b => F b \/ w.heap.size <= b) W B (workS s i).1 /\ Kept F w W) := fun W hW r hr => by
    rw [hr]
    refine ⟨rfl, (hxU.later hW).mono (fun b _ h => .inl h.1), Kept.of_below (hwU.trans (hW.mono hwU.size)) (fun b h1 h2 => by omega)⟩
   refine (inTurn_calls w3.heap.size 3 3 [(120, #[], #[.pointer (some ⟨w.heap.size + 1, 0, none⟩), .pointer (some ⟨w.heap.size, 0, none⟩)]), (125, #[], #[.pointer (some ⟨w1.heap.size, 0, none⟩), .pointer (some ⟨w1.heap.size + 1, 0, none⟩)]), (127, #[], #[.pointer (some ⟨w2.heap.size, 0, none⟩), .pointer (some ⟨w2.heap.size + 1, 0, none⟩)])] U rfl (by omega)
    (fun j W => if j = 0 then Below U.heap.size U W else if j = 1 then Below U.heap.size U W /\ 0 <= i /\ i < s.workers else if j = 2 then Below U.heap.size U W /\ (0 <= i /\ i < s.workers) /\ (tasksS s i).1 ≠ [] else 0 = (workS s i).2 /\ XOK (fun b => F b \/ w.heap.size <= b) W B (workS s i).1 /\ Kept F w W)
    (fun r W => r = (workS s i).2 /\ XOK (fun b => F b \/ w.heap.size <= b) W B (workS s i).1 /\ Kept F w W) ?_ ?_ ?_ ?_).mono ?_
   ·intro j W hJ f hf
    have hBU := bL.below hU bL.lt
    match j, hf with
    | 0, hf => cases hf; simp only [if_true] at hJ; exact (hBU.below hJ hBU.lt).cell (o := 0) rfl
    | 1, hf => cases hf; simp only [Nat.one_ne_zero, if_false, if_true] at hJ; exact (hBU.below hJ.1 hBU.lt).cell (o := 1) rfl
    | 2, hf => cases hf; simp only [show ¬ (2 : Nat) = 0 by omega, show ¬ (2 : Nat) = 1 by omega, if_false, if_true] at hJ; exact (hBU.below hJ.1 hBU.lt).cell (o := 2) rfl
    | (m + 3), hf => simp at hf
   ·intro f hf args W
    simp at hf
    rcases hf with rfl | rfl | rfl
    ·exact enters_of Tryz.func120 (by kernel_rfl) rfl args W
    ·exact enters_of Tryz.func125 (by kernel_rfl) rfl args W
    ·exact enters_of Tryz.func127 (by kernel_rfl) rfl args W
   ·intro j f hf W hJ
    match j, hf with
    | 0, hf =>
     cases hf
     simp only [if_true] at hJ
     refine (isWorker1_calls _ B w.heap.size (w.heap.size + 1) s i W (hxU.later hJ) hfit ((hA.below hU).below hJ)).mono ?_
     rintro e w' ⟨rfl, hbw⟩
     have hbUw : Below U.heap.size U w' := hJ.trans (hbw.mono hJ.size)
     by_cases hin : i < 0 \/ s.workers <= i
     ·have hws : workS s i = (s, 7) := by simp [workS, workerE, hstart, hin]
      obtain ⟨k1, k2, k3⟩ := keepU w' hbUw 7 hws
      exact ⟨7, by rw [if_pos hin], .inr ⟨by omega, k1.symm, k2, k3⟩⟩
     ·exact ⟨0, by rw [if_neg hin], .inl ⟨rfl, by simp only [Nat.zero_add, Nat.one_ne_zero, if_false, if_true]; exact ⟨hbUw, by omega⟩⟩⟩
    | 1, hf =>
     cases hf
     simp only [Nat.one_ne_zero, if_false, if_true] at hJ
     obtain ⟨hJ, hin⟩ := hJ
     obtain ⟨k, rfl⟩ := Int.eq_ofNat_of_zero_le hin.1
     have hf5 := hfit.five
     obtain ⟨x, hxk⟩ : ∃ x, s.W[k]? = some x := ⟨_, List.getElem?_eq_getElem (by omega)⟩
     have htk : (tasksS s (k : Int)).1 = x.tasks := by
      unfold tasksS
      rw [if_neg (by omega)]
      simp [hxk]
     refine (hasTask1_calls _ B w1.heap.size (w1.heap.size + 1) k s x W (hxU.later hJ) hxk (by omega) ((hB.below hU).below hJ)).mono ?_
     rintro e w' ⟨rfl, hbw⟩
     have hbUw : Below U.heap.size U w' := hJ.trans (hbw.mono hJ.size)
     by_cases hz : x.tasks.length = 0
     ·have hwe : workerE s (k : Int) = 0 := by simp [workerE, hstart]; omega
      have hz' : x.tasks = [] := List.length_eq_zero_iff.1 hz
      have hws : workS s (k : Int) = (s, 8) := by simp [workS, hwe, hxk, hz']
      obtain ⟨k1, k2, k3⟩ := keepU w' hbUw 8 hws
      exact ⟨8, by rw [if_pos hz], .inr ⟨by omega, k1.symm, k2, k3⟩⟩
     ·refine ⟨0, by rw [if_neg hz], .inl ⟨rfl, ?_⟩⟩
      simp only [show ¬ (1 + 1 : Nat) = 0 by omega, show ¬ (1 + 1 : Nat) = 1 by omega, show (1 + 1 : Nat) = 2 from rfl, if_false, if_true]
      exact ⟨hbUw, hin, by rw [htk]; intro h; rw [h] at hz; simp at hz⟩
    | 2, hf =>
     cases hf
     simp only [show ¬ (2 : Nat) = 0 by omega, show ¬ (2 : Nat) = 1 by omega, if_false, if_true] at hJ
     obtain ⟨hJ, hin, hne⟩ := hJ
     obtain ⟨k, rfl⟩ : ∃ k : Nat, i = (k : Int) := ⟨i.toNat, by omega⟩
     have h5 := hfit.five
     obtain ⟨x, hxk⟩ : ∃ x, s.W[k]? = some x := ⟨_, List.getElem?_eq_getElem (by omega)⟩
     have htk : (tasksS s (k : Int)).1 = x.tasks := by
      unfold tasksS
      rw [if_neg (by omega)]
      simp [hxk]
     rw [htk] at hne
     rcases List.eq_nil_or_concat x.tasks with hxt | ⟨L, t, hxt⟩
     ·exact absurd hxt hne
     rw [List.concat_eq_append] at hxt
     have hwe : workerE s (k : Int) = 0 := by simp [workerE, hstart]; omega
     have hws := workS_done1 hwe hxk hxt
     have zU := hwU.size
     have zW := hJ.size
     have zUU := hU.size
     refine (doYoungest1_calls _ B w2.heap.size (w2.heap.size + 1) k N s x L t W (hxU.later hJ) hfit hsh hN hN' hkn hxk (by omega) hxt hv ((hC.below hU).below hJ) ⟨fun h => by omega, fun h => by omega⟩).mono ?_
     rintro e w' ⟨rfl, k2, k3⟩
     have hxw : XOK (fun b => F b \/ w.heap.size <= b) w' B (workS s (k : Int)).1 := by rw [hws]; exact k2.mono (fun b _ h => by rcases h with h | h; exact .inl h.1; exact .inr (by omega))
     have hkw : Kept F w w' := (Kept.of_below (hwU.trans (hJ.mono zU)) (X := F) (fun b h1 h2 => by omega)).andThen k3 (fun b _ h => h.1)
     refine ⟨(doneS s k x L t).2, rfl, ?_⟩
     by_cases hr : (doneS s k x L t).2 = 0
     ·refine .inl ⟨hr, ?_⟩
      simp only [show ¬ (2 + 1 : Nat) = 0 by omega, show ¬ (2 + 1 : Nat) = 1 by omega, show ¬ (2 + 1 : Nat) = 2 by omega, if_false]
      exact ⟨by rw [hws, hr], hxw, hkw⟩
     ·exact .inr ⟨hr, by rw [hws], hxw, hkw⟩
    | (m + 3), hf => simp at hf
   ·exact Below.refl _ _
   ·rintro e w' ⟨r, rfl, hr⟩
    refine ⟨r, rfl, ?_⟩
    rcases hr with ⟨rfl, h2⟩ | ⟨_, h2⟩
    ·simp only [show ¬ (3 : Nat) = 0 by omega, show ¬ (3 : Nat) = 1 by omega, show ¬ (3 : Nat) = 2 by omega, if_false] at h2
     exact h2
    ·exact h2
  ·rintro e w' ⟨r, rfl, hr⟩
   refine ⟨r, rfl, ?_⟩
   rcases hr with ⟨ho, rfl, hb⟩ | ⟨_, h2⟩
   ·have hws : workS s i = (s, 6) := by simp [workS, workerE, startE, hd, ho]
    rw [hws]
    exact ⟨rfl, (hx4.later hb).mono (fun b _ h => .inl h.1), Kept.of_below (hb4.trans (hb.mono hb4.size)) (fun b h1 h2 => by omega)⟩
   ·exact h2
 have HKEY := hid_of key
 have HW1 := hid_of hw1
 have HW2 := hid_of hw2
 have HW3 := hid_of hw3
 have HW4 := hid_of hw4
 obtain ⟨res, hres⟩ : ∃ res, workS s i = res := ⟨_, rfl⟩
 rw [hres] at HKEY ⊢
 clear key hw1 hw2 hw3 hw4 hx hx0 hx4 hA hB hC bL hb4 g1 g2 g3 g4 z1 z2 z3 z4 hf hfit hlen hres
 go_enter Tryz.func33, Tryz.ntmps33
 go_wp2_with (first
  | (go_at_call 73; refine (isWorker_calls (some ⟨B, 0, none⟩) i w).mono ?_; rintro e a1 ⟨rfl, hq⟩; obtain rfl : w1 = a1 := HW1.out.symm.trans hq.symm; clear hq)
  | (go_at_call 77; refine (hasTask_calls (some ⟨B, 0, none⟩) i w1).mono ?_; rintro e a2 ⟨rfl, hq⟩; obtain rfl : w2 = a2 := HW2.out.symm.trans hq.symm; clear hq)
  | (go_at_call 78; refine (doYoungest_calls (some ⟨B, 0, none⟩) i w2).mono ?_; rintro e a3 ⟨rfl, hq⟩; obtain rfl : w3 = a3 := HW3.out.symm.trans hq.symm; clear hq)
  | (go_at_call 76; refine Calls.at_world HW4.out ?_; refine HKEY.out.mono ?_; rintro e a4 ⟨r, rfl, hr, k2, k3⟩; subst hr))
 go_ret
 exact ⟨rfl, k2, k3⟩
end Go.Proofs.YteahdfeialekbaaGreatDoor
namespace Go.Proofs.YteahdfeialekbaaGreatDoor
open Go Go.RowKit
def Passed (es : List Int) (i : Nat) : Prop := ∀ j e, j < i -> es[j]? = some e -> e = 0
theorem Passed.next {es : List Int} {i : Nat} (h : Passed es i) (he : es[i]? = some 0) : Passed es (i + 1) := fun j e hj hje => by
 rcases Nat.lt_or_ge j i with h' | h'
 ·exact h j e h' hje
 ·obtain rfl : j = i := by omega
  rw [he] at hje
  exact (Option.some.inj hje).symm
theorem inTurn_tests (g : Nat) (fs : List StepV) (es : List Int) (fl : StepV) (U : World) (R : Int -> World -> Prop) (hn : fs.length <= 8) (hes : es.length = fs.length) (t : TypeId) (hbox : BoxAt U g t ((fs ++ [fl]).map stepVal).toArray)
  (he : ∀ f ∈ fs ++ [fl], ∀ args w, (callFunc f.1 args).run Tryz.prog w = .ok (.enter f.1 args) w)
  (test : ∀ i f e, fs[i]? = some f -> es[i]? = some e -> Passed es i -> ∀ W, Below U.heap.size U W -> Calls Tryz.prog f.1 (f.2.1 ++ f.2.2) W fun en w' => en = .returned (.int .i64 e) /\ Below W.heap.size W w')
  (bad : ∀ i e, es[i]? = some e -> e ≠ 0 -> Passed es i -> ∀ W, Below U.heap.size U W -> R e W)
  (last : Passed es es.length -> ∀ W, Below U.heap.size U W -> Calls Tryz.prog fl.1 (fl.2.1 ++ fl.2.2) W fun en w' => ∃ r, en = .returned (.int .i64 r) /\ R r w') :
  Calls Tryz.prog 119 #[.slice (some ⟨g, 0, none⟩) (fs.length + 1) (fs.length + 1)] U fun e w' => ∃ r, e = .returned (.int .i64 r) /\ R r w' := by
 refine (inTurn_calls g (fs.length + 1) (fs.length + 1) (fs ++ [fl]) U (by simp) (by omega) (fun i W => if i <= fs.length then Below U.heap.size U W /\ Passed es i else R 0 W) (fun r W => R r W) ?_ he ?_ ?_).mono ?_
 ·intro i W hJ f hf
  have hi := (List.getElem?_eq_some_iff.1 hf).1
  simp at hi
  rw [if_pos (by omega)] at hJ
  refine (hbox.below hJ.1 hbox.lt).cell (o := i) ?_
  rw [List.getElem?_toArray, List.getElem?_map, hf]
  rfl
 ·intro i f hf W hJ
  have hi := (List.getElem?_eq_some_iff.1 hf).1
  simp at hi
  rw [if_pos (by omega)] at hJ
  rcases Nat.lt_or_ge i fs.length with hl | hl
  ·rw [List.getElem?_append_left hl] at hf
   obtain ⟨e, hee⟩ : ∃ e, es[i]? = some e := ⟨_, List.getElem?_eq_getElem (by omega)⟩
   refine (test i f e hf hee hJ.2 W hJ.1).mono ?_
   rintro en w' ⟨rfl, hb⟩
   have hb' : Below U.heap.size U w' := hJ.1.trans (hb.mono hJ.1.size)
   refine ⟨e, rfl, ?_⟩
   by_cases h0 : e = 0
   ·subst h0
    refine .inl ⟨rfl, ?_⟩
    rw [if_pos (by omega)]
    exact ⟨hb', hJ.2.next hee⟩
   ·exact .inr ⟨h0, bad i e hee h0 hJ.2 w' hb'⟩
  ·obtain rfl : i = fs.length := by omega
   have hfe : f = fl := by simpa using hf.symm
   subst hfe
   refine (last (by rw [hes]; exact hJ.2) W hJ.1).mono ?_
   rintro en w' ⟨r, rfl, hr⟩
   refine ⟨r, rfl, ?_⟩
   by_cases h0 : r = 0
   ·subst h0
    refine .inl ⟨rfl, ?_⟩
    rw [if_neg (by omega)]
    exact hr
   ·exact .inr ⟨h0, hr⟩
 ·rw [if_pos (Nat.zero_le _)]
  exact ⟨Below.refl _ _, fun j e hj => absurd hj (Nat.not_lt_zero _)⟩
 ·rintro e w' ⟨r, rfl, hr⟩
  refine ⟨r, rfl, ?_⟩
  rcases hr with ⟨rfl, h⟩ | ⟨-, h⟩
  ·rwa [if_neg (by omega)] at h
  ·exact h
theorem change_tests (F : Nat -> Prop) (B g : Nat) (s : RunS) (w : World) (hx : XOK F w B s) (fs : List StepV) (es : List Int) (fl : StepV) (res : RunS × Int) (w0 : World) (hw0 : Below w0.heap.size w0 w) (hx0 : XOK F w0 B s) (hn : fs.length <= 8) (hes : es.length = fs.length) (t : TypeId) (hbox : BoxAt w g t ((fs ++ [fl]).map stepVal).toArray)
  (hover : s.over = true -> res = (s, 6))
  (he : ∀ f ∈ fs ++ [fl], ∀ args w, (callFunc f.1 args).run Tryz.prog w = .ok (.enter f.1 args) w)
  (test : s.over = false -> ∀ i f e, fs[i]? = some f -> es[i]? = some e -> Passed es i -> ∀ W, Below w.heap.size w W -> Calls Tryz.prog f.1 (f.2.1 ++ f.2.2) W fun en w' => en = .returned (.int .i64 e) /\ Below W.heap.size W w')
  (bad : s.over = false -> ∀ i e, es[i]? = some e -> e ≠ 0 -> Passed es i -> res = (s, e))
  (last : s.over = false -> Passed es es.length -> ∀ W, Below w.heap.size w W -> Calls Tryz.prog fl.1 (fl.2.1 ++ fl.2.2) W (XGives (fun b => F b /\ b < w0.heap.size) W B res)) :
  Calls Tryz.prog 76 #[.pointer (some ⟨B, 0, none⟩), .slice (some ⟨g, 0, none⟩) (fs.length + 1) (fs.length + 1)] w (XGives F w0 B res) := by
 have same : ∀ W r, Below w.heap.size w W -> res = (s, r) -> XGives F w0 B res (.returned (.int .i64 r)) W := fun W r hb hr => by
  rw [hr]
  have hb0 : Below w0.heap.size w0 W := hw0.trans (hb.mono hw0.size)
  exact ⟨rfl, (hx0.later hb0).mono (fun b _ h => .inl h), Kept.of_below hb0 (fun b h1 h2 => by omega)⟩
 refine (change_calls F B g (fs.length + 1) s w hx (fun r w' => XGives F w0 B res (.returned (.int .i64 r)) w') (fun hov U hU => ?_)).mono ?_
 ·refine (inTurn_tests g fs es fl U (fun r w' => XGives F w0 B res (.returned (.int .i64 r)) w') hn hes t (hbox.below hU hbox.lt) he (fun i f e h1 h2 h3 W hW => test hov i f e h1 h2 h3 W (hU.trans (hW.mono hU.size))) (fun i e h1 h2 h3 W hW => same W e (hU.trans (hW.mono hU.size)) (bad hov i e h1 h2 h3)) (fun hp W hW => ?_)).mono (fun e w' h => h)
  have hb : Below w.heap.size w W := hU.trans (hW.mono hU.size)
  have hb0 : Below w0.heap.size w0 W := hw0.trans (hb.mono hw0.size)
  have z0 := hb0.size
  refine (last hov hp W hb).mono ?_
  rintro en w' ⟨rfl, h2, h3⟩
  refine ⟨_, rfl, rfl, h2.mono (fun b _ h => ?_), ?_⟩
  ·rcases h with h | h
   ·exact .inl h.1
   ·exact .inr (by omega)
  ·exact (Kept.of_below hb0 (X := F) (fun b h1 h2 => by omega)).andThen h3 (fun b _ h => h.1)
 ·rintro e w' ⟨r, rfl, h⟩
  rcases h with ⟨h1, rfl, h2⟩ | ⟨-, h⟩
  ·exact same w' 6 h2 (hover h1)
  ·exact h
theorem store_msg (b : Nat) (cs : Array Value) (W : World) (hb : BoxAt W b 140 cs) (h15 : cs.size = 15) (m : MsgS) : (storeVar 140 ⟨b, 0, none⟩ (.agg (msgCells m))).run Tryz.prog W = .ok () (W.setCells b 0 (msgEnc m)) := by
 obtain ⟨iM, hiM, hzM0, hzM1, hzM2⟩ := info_parts infoMessage
 have hst := run_storeCells_cells (P := Tryz.prog) b 0 (msgEnc m) 0 W (fun j hj => by
  have hj' : j < 15 := by simpa [msgEnc] using hj
  obtain ⟨v, hv⟩ := get_some (cs := cs) (i := j) (by omega)
  have := hb.cell hv
  simp [this]) (fun j hj => by simpa using hb.frozen j) (fun v hv => msgEnc_one m v hv)
 simp only [Nat.add_zero] at hst
 have hc : (Value.agg (msgCells m)).cells.toList = msgEnc m := rfl
 have hs : (Value.agg (msgCells m)).cells.size = 15 := rfl
 simp [storeVar, sizeOf, typeInfo, hiM, hzM1, hs, hc, hst]
theorem store_op (a : Act) (o : Oper) (x y : Operand) (ho : o.op = Op.store 140 x y) (b : Nat) (cs : Array Value) (W : World) (hb : BoxAt W b 140 cs) (h15 : cs.size = 15) (m : MsgS) (hx : a.eval x = .pointer (some ⟨b, 0, none⟩)) (hy : a.eval y = Value.agg (msgCells m)) : (execOp a.eval o).run Tryz.prog W = .ok .skip (W.setCells b 0 (msgEnc m)) := by
 simp [execOp, ho, hx, hy, Instr.storeAt, Instr.sureAddr, store_msg b cs W hb h15 m]
theorem putAll_setCells : ∀ (us : List Value) (g o : Nat) (W : World), W.setCells g o us = putAll W g o us
 | [], _, _, _ => rfl
 | _ :: r, g, o, _ => putAll_setCells r g (o + 1) _
theorem semAt_wide (ρ : Operand -> Value) (o : Oper) : Oper.semAt Fence.wide.round ρ o = execOp ρ o := by
 show Oper.semAt none ρ o = _
 unfold Oper.semAt
 cases o.op <;> rfl
section
variable {F : Fence} {n : Nat} {P : Program} {ops : Array Oper} {Q : Exit -> Act -> World -> Prop} {i : Nat} {rest : List Nat} {o : Oper} {a : Act} {w w' : World}
theorem wpOpsIn_value {v : Value} (ho : ops[i]? = some o) (hw : Region.wanted o (yielded ops a.tmps) = true) (hab : o.about P w a.eval = none) (hr : (o.semAt F.round a.eval).run P w = .ok (.value v) w') (h : wpOpsIn F n P ops Q rest (a.put o.dst v) w') : wpOpsIn F n P ops Q (i :: rest) a w := by
 simp only [wpOpsIn, ho, hw, if_true, Oper.wpIn, hab, hr, Oper.uponIn_value]
 exact ⟨(fun f hf => by cases hf), h⟩
theorem wpOpsIn_skip (ho : ops[i]? = some o) (hw : Region.wanted o (yielded ops a.tmps) = true) (hab : o.about P w a.eval = none) (hr : (o.semAt F.round a.eval).run P w = .ok .skip w') (h : wpOpsIn F n P ops Q rest (a.put o.dst undef) w') : wpOpsIn F n P ops Q (i :: rest) a w := by
 simp only [wpOpsIn, ho, hw, if_true, Oper.wpIn, hab, hr, Oper.uponIn_skip]
 exact ⟨(fun f hf => by cases hf), h⟩
end
attribute [local go_sem] Oper.semAt_some
def oldestS (l : LinkS) : MsgS × Bool := match l.left with
 | [] => (msg0, false)
 | x :: _ => (x, true)
set_option maxHeartbeats 8000000 in
set_option maxRecDepth 100000 in
theorem oldest_out (X : Nat -> Prop) (q : Nat) (l : LinkS) (w : World) (h : OutAt X w q l) (hn : l.all.length <= 100000000) :
  Calls Tryz.prog 162 #[.pointer (some ⟨q, 0, none⟩)] w fun e w' => ∃ v, e = .returned v /\ (v = .tuple #[msgV (oldestS l).1, .bool (oldestS l).2] /\ OutAt (fun b => X b \/ w.heap.size <= b) w' q l /\ Kept X w w') := by
 obtain ⟨c, cap, hq, hXq, ⟨s, r, hch⟩, hXc, h4, hcap, hlen⟩ := h
 have hcw : c < w.heap.size := (Array.getElem?_eq_some_iff.1 hch).1
 have hqw := hq.lt
 have hqc : q ≠ c := fun e => by subst e; have h1 : w.heap[q]? = _ := hq; rw [hch] at h1; cases h1
 refine (callsIn_wide (n := 5)).1 ?_
 refine callsIn_of_wp_marks Tryz.func162 rfl trivial ?_ rfl
 simp only [Tryz.ntmps162, List.size_toArray, List.length_cons, List.length_nil, Nat.reduceAdd, Nat.reduceSub, Array.replicate_succ, Array.replicate_zero, List.push_toArray, List.append_toArray, List.nil_append, List.cons_append]
 obtain ⟨Z, hZ⟩ : ∃ Z, (w.alloc (Obj.cells (msgCells msg0) 140)).alloc (Obj.cells #[.bool false] 4) = Z := ⟨_, rfl⟩
 have gZ : Below w.heap.size w Z := by rw [<- hZ]; exact ((Below.refl _ _).alloc (Nat.le_refl _) _).alloc (by simp) _
 have sZ : Z.heap.size = w.heap.size + 2 := by rw [<- hZ]; simp
 have bM : BoxAt Z w.heap.size 140 (msgCells msg0) := by rw [<- hZ]; exact (BoxAt.new w _ _).alloc _
 have bB : BoxAt Z (w.heap.size + 1) 4 #[.bool false] := by rw [<- hZ]; exact boxAt_at _ _ _ _ (by simp)
 have qZ := hq.below gZ hqw
 have cZ : Z.heap[c]? = some (.chan cap (l.left.map msgV).toArray false s r false) := (gZ.block c hcw).trans hch
 have y1 := qZ.cell (o := 1) rfl
 have hcp : ∀ ty, (Builtin.cap_ #[166] ty #[.chan (some c)]).run Tryz.prog Z = .ok (.int .i64 (cap : Int)) Z := fun ty => run_cap_ch _ _ Tryz.underlying166 cZ
 have e0 : (w.alloc (Obj.cells (msgCells msg0) 140)).alloc (Obj.cells #[.bool false] 4) = Z := hZ
 simp only [msg0] at e0
 clear hZ
 gi_wp2_with fail
 refine ⟨trivial, ?_⟩
 refine callsIn_wide.2 ?_
 refine (through_calls q _ Z).mono ?_
 rintro e w1 ⟨rfl, hw1⟩
 have b1 : BoxAt w1 Z.heap.size 198 #[.pointer (some ⟨q, 0, none⟩)] := by rw [hw1]; exact (BoxAt.new Z _ _).alloc _
 have b2 : BoxAt w1 (Z.heap.size + 1) 3 #[.int .i64 (cap : Int)] := by rw [hw1]; exact boxAt_at _ _ _ _ (by simp)
 have g1 : Below Z.heap.size Z w1 := by rw [hw1]; exact ((Below.refl _ _).alloc (Nat.le_refl _) _).alloc (by simp) _
 have s1 : w1.heap.size = Z.heap.size + 2 := by rw [hw1]; simp
 have q1 := qZ.below g1 qZ.lt
 have c1 : w1.heap[c]? = some (.chan cap (l.left.map msgV).toArray false s r false) := (g1.block c (by omega)).trans cZ
 have r1 := bM.below g1 bM.lt
 have t1 := bB.below g1 bB.lt
 have g0 : Below w.heap.size w w1 := gZ.trans (g1.mono (by omega))
 clear hw1 y1 hcp e0 bM bB qZ cZ gZ g1
 gi_wp2
 obtain ⟨H, hH⟩ : ∃ H, w.heap.size = H := ⟨_, rfl⟩
 rw [sZ, hH] at b1 b2 s1
 rw [hH] at r1 t1
 rw [hH]
 refine range_lawG (n := 5) rfl (enters_of Tryz.func192 (by kernel_rfl) rfl) (fun rec hyield => ?_)
 obtain ⟨V, hV⟩ : ∃ V, (w1.alloc (.deferred (some []))).alloc (.loop (rec .ready none)) = V := ⟨_, rfl⟩
 have gV : Below w1.heap.size w1 V := by rw [<- hV]; exact ((Below.refl _ _).alloc (Nat.le_refl _) _).alloc (by simp) _
 have sV : V.heap.size = w1.heap.size + 2 := by rw [<- hV]; simp
 have lV : V.heap[w1.heap.size + 1]? = some (.loop (rec .ready none)) := by
  have h := World.alloc_heap_new (w1.alloc (.deferred (some []))) (.loop (rec .ready none))
  rw [World.size_alloc] at h; rw [<- hV]; exact h
 have dV : V.heap[w1.heap.size]? = some (.deferred (some [])) := by
  rw [<- hV]; exact (Below.heap_alloc _ _ _ (by simp)).trans (World.alloc_heap_new w1 _)
 rw [hV]
 obtain ⟨D, hD⟩ : ∃ D, w1.heap.size = D := ⟨_, rfl⟩
 rw [hD] at hyield lV dV gV sV s1 ⊢
 have rV : BoxAt V H 140 (msgCells msg0) := r1.below (by rw [hD]; exact gV) r1.lt
 have tV : BoxAt V (H + 1) 4 #[.bool false] := t1.below (by rw [hD]; exact gV) t1.lt
 have gwV : Below w.heap.size w V := g0.trans (gV.mono (by omega))
 refine (through1_calls (5 - 1) (D + 1) q c cap s r cap (H + 2 + 1) (H + 2) (.int .i64 (l.all.length : Int)) l.left V (fun k => k = D + 1 \/ k = H \/ k = H + 1)
  (fun p A => p = [] /\ A.heap[D + 1]? = some (.loop (rec .ready none)) /\ A.heap[D]? = some (.deferred (some [])) /\ BoxAt A H 140 (msgCells msg0) /\ BoxAt A (H + 1) 4 #[.bool false])
  (fun A => ∃ x y, l.left = x :: y /\ A.heap[D + 1]? = some (.loop (rec .done (some .ret))) /\ A.heap[D]? = some (.deferred (some [])) /\ BoxAt A H 140 (msgCells x) /\ BoxAt A (H + 1) 4 #[.bool true])
  (q1.below (by rw [hD]; exact gV) q1.lt) ((gV.block c (by omega)).trans c1) (b2.below (by rw [hD]; exact gV) b2.lt) (b1.below (by rw [hD]; exact gV) b1.lt) hlen (by omega) (fun k hk => by omega)
  (fun p A B h hk => ⟨h.1, hk.heap h.2.1 (by omega), hk.heap h.2.2.1 (by omega), h.2.2.2.1.kept hk (by omega), h.2.2.2.2.kept hk (by omega)⟩)
  (fun A B h hk => by
   obtain ⟨x, y, h0, h1, h2, h3, h5⟩ := h
   exact ⟨x, y, h0, hk.heap h1 (by omega), hk.heap h2 (by omega), h3.kept hk (by omega), h5.kept hk (by omega)⟩)
  ⟨rfl, lV, dV, rV, tV⟩ ?yields).mono ?_
 case yields =>
  rintro p m W1 hpre ⟨rfl, hl1, hd1, hr1, ht1⟩
  obtain ⟨y, hy⟩ := hpre
  have HY : l.left = m :: y := by rw [<- hy]; rfl
  have hHD : H + 4 <= D := by omega
  have key : ∀ R : Ending -> World -> Prop, (∀ V, V.heap[D + 1]? = some (.loop (rec .busy none)) -> V.heap[D]? = some (.deferred (some [])) -> BoxAt V H 140 (msgCells m) -> BoxAt V (H + 1) 4 #[.bool true] -> Kept (fun k => k = D + 1 \/ k = H \/ k = H + 1) W1 V -> R (.returned (.bool false)) (V.putObj (D + 1) (.loop (rec .done (some .ret))))) -> YieldAt Fence.wide (5 - 1 - 1) Tryz.prog (D + 1) #[msgV m] W1 R := fun R hR => by
   have HRR := hid_of hR
   refine hyield _ _ W1 _ hl1 rfl (fun K hK => ?_)
   have HL1 := hid_of hl1
   have HD1 := hid_of hd1
   have HR1 := hid_of hr1
   have HT1 := hid_of ht1
   clear hl1 hd1 hr1 ht1 hyield lV dV rV tV r1 t1 q1 c1 b1 b2 hy HY hn hq hXq hch hXc h4 hcap hlen hcw hqw hqc sZ s1 sV gV gwV g0 hV hD hH hR
   gi_wp2
   obtain ⟨U, hU⟩ : ∃ U, W1.alloc (Obj.cells (msgCells m) 140) = U := ⟨_, rfl⟩
   have kU : Kept (fun _ => False) W1 U := by rw [<- hU]; exact Kept.alloc _ _ _
   have bU : BoxAt U W1.heap.size 140 (msgCells m) := by rw [<- hU]; exact BoxAt.new W1 _ _
   rw [show W1.alloc (Obj.cells (msgCells m) 140) = U from hU]
   have lU := kU.heap HL1.out (fun h => h)
   refine hK _ _ lU ?_
   clear hK K hU
   obtain ⟨T, hT⟩ : ∃ T, U.putObj (D + 1) (.loop (rec .busy none)) = T := ⟨_, rfl⟩
   have hDl := (Array.getElem?_eq_some_iff.1 lU).1
   have kT : Kept (· = D + 1) U T := by rw [<- hT]; exact Kept.putObj _ _ _ rfl
   have lT : T.heap[D + 1]? = some (.loop (rec .busy none)) := by rw [<- hT]; exact World.putObj_heap_same hDl
   have hWl : D + 1 < W1.heap.size := (Array.getElem?_eq_some_iff.1 HL1.out).1
   have bT := bU.kept kT (by omega)
   have rT := (HR1.out.kept kU (fun h => h)).kept kT (by omega)
   have tT := (HT1.out.kept kU (fun h => h)).kept kT (by omega)
   have dT := kT.heap (kU.heap HD1.out (fun h => h)) (by omega)
   rw [hT]
   obtain ⟨Bx, hBx⟩ : ∃ Bx, W1.heap.size = Bx := ⟨_, rfl⟩
   rw [hBx] at bT ⊢
   have HBL : Hid (D + 1 < Bx) := by show _ < _; omega
   obtain ⟨m0, m1, m2, m3, m4, m5, m6, m7, m8, m9, m10, m11, m12, m13, m14⟩ := cells15 bT
   obtain ⟨z0, z1, z2, z3, z4, z5, z6, z7, z8, z9, z10, z11, z12, z13, z14⟩ := cells15 rT
   have y0 := tT.cell (o := 0) rfl
   have fr := rT.frozen
   have ft := tT.frozen 0
   have HLT := hid_of lT
   have HRT := hid_of rT
   have HTT := hid_of tT
   have HDT := hid_of dT
   have HKT : Hid (Kept (· = D + 1) W1 T) := (kU.mono (fun _ _ h => h.elim)).trans kT
   clear lT rT tT dT kT kU hT bU lU bT hBx hDl hWl HL1 HD1 HR1 HT1
   have kP : Kept (· = H) T (putAll T H 0 (msgEnc m)) := kept_putAll (X := fun x => x = H) (.inl rfl) _ _ _ (Kept.refl _ _)
   have bP := box_putAll (msgEnc m) HRT.out rfl
   have tP := HTT.out.kept kP (by omega)
   refine wpIn_block (wpIn_seq (wpIn_region ?_))
   change wpOpsIn _ _ _ _ _ [0, 1, 2] _ _
   refine wpOpsIn_value (v := msgV m) (w' := T) rfl rfl rfl ?_ ?_
   ·rw [show (Fence.wide.inRound (D + 1)).round = some (D + 1) from rfl, Oper.semAt_some _ _ _ (by intro c; simp)]
    go_simp
   refine wpOpsIn_skip (w' := putAll T H 0 (msgEnc m)) rfl rfl rfl ?_ ?_
   ·rw [show (Fence.wide.inRound (D + 1)).round = some (D + 1) from rfl, Oper.semAt_some _ _ _ (by intro c; simp), <- putAll_setCells]
    exact store_op _ _ _ _ rfl H _ T HRT.out rfl m rfl rfl
   generalize hPP : putAll T H 0 (msgEnc m) = P2 at kP bP tP ⊢
   have y2 := tP.cell (o := 0) rfl
   have f2 := tP.frozen 0
   refine wpOpsIn_skip (w' := P2.setCell ⟨H + 1, 0, none⟩ (.bool true)) rfl rfl rfl ?_ ?_
   ·rw [show (Fence.wide.inRound (D + 1)).round = some (D + 1) from rfl, Oper.semAt_some _ _ _ (by intro c; simp)]
    go_simp
   have kQ : Kept (· = H + 1) P2 (P2.setCell ⟨H + 1, 0, none⟩ (.bool true)) := (Kept.refl _ _).setCell (.inl (by rfl)) _
   have kF : Kept (fun k => k = H \/ k = H + 1) T (P2.setCell ⟨H + 1, 0, none⟩ (.bool true)) := (kP.mono (fun _ _ h => .inl h)).trans (kQ.mono (fun _ _ h => .inr h))
   have lF := kF.heap HLT.out (by omega)
   refine wpIn_ret ⟨lF, HRR.out _ lF (kF.heap HDT.out (by omega)) (bP.kept kQ (by omega)) (tP.setAt 0 _) ((HKT.out.mono (fun _ _ h => .inl h)).trans (kF.mono (fun _ _ h => by omega)))⟩
  refine key _ (fun V h1 h2 h3 h5 h6 => ⟨.inr ⟨rfl, m, y, HY, World.putObj_heap_same (Array.getElem?_eq_some_iff.1 h1).1, (World.putObj_heap_other (by omega)).trans h2, h3.kept (Kept.putObj (X := (· = D + 1)) _ _ _ rfl) (by omega), h5.kept (Kept.putObj (X := (· = D + 1)) _ _ _ rfl) (by omega)⟩, h6.trans (Kept.putObj _ _ _ (.inl rfl))⟩)
 ·rintro e W' ⟨⟨v, rfl⟩, hj, hq', hc', hk'⟩
  have hOut : ∀ W9, Kept (fun k => k = D \/ k = D + 1 \/ k = H \/ k = H + 1) W' W9 -> OutAt (fun b => X b \/ w.heap.size <= b) W9 q l /\ Kept X w W9 := fun W9 k9 => by
   refine ⟨⟨V.heap.size, cap, hq'.kept k9 (by omega), .inl hXq, hc'.kept k9 (by omega), .inr (by omega), h4, hcap, hlen⟩, ?_⟩
   exact ((Kept.of_below gwV (X := X) (fun b h1 h2 => by omega)).andThen hk' (fun b hb h => by
    rcases h with (h | h | h) | h | h
    ·omega
    ·omega
    ·omega
    ·subst h; exact hXc
    ·subst h; exact hXq)).andThen k9 (fun b hb h => by omega)
  have HOUT := hid_of hOut
  rcases hj with ⟨hj0, hl1, hd1, hr1, ht1⟩ | ⟨x, y, hxy, hl1, hd1, hr1, ht1⟩
  ·have HO : Hid (oldestS l = (msg0, false)) := by show _ = _; simp [oldestS, hj0]
   refine ⟨⟨_, rfl⟩, .inl ⟨hl1, ?_⟩⟩
   have k8 : Kept (· = D + 1) W' (W'.putObj (D + 1) (.loop (rec .exhausted none))) := Kept.putObj _ _ _ rfl
   generalize W'.putObj (D + 1) (.loop (rec .exhausted none)) = W8 at k8 ⊢
   have hd8 := k8.heap hd1 (by omega)
   have hr8 := hr1.kept k8 (by omega)
   have ht8 := ht1.kept k8 (by omega)
   rename_i hcont
   refine hcont _ _ ?_
   clear hcont
   have kP : Kept (· = H) W8 (putAll W8 H 0 (msgEnc msg0)) := kept_putAll (X := fun x => x = H) (.inl rfl) _ _ _ (Kept.refl _ _)
   have bP := box_putAll (msgEnc msg0) hr8 rfl
   have tP := ht8.kept kP (by omega)
   refine wpIn_seq (wpIn_region ?_)
   change wpOpsIn _ _ _ _ _ [0, 1, 2] _ _
   refine wpOpsIn_value (v := msgV msg0) (w' := W8) rfl rfl rfl ?_ ?_
   ·rw [semAt_wide]
    go_simp
    exact ⟨rfl, rfl, rfl, rfl, rfl, rfl, rfl, rfl, rfl, rfl, rfl, rfl, rfl, rfl, rfl⟩
   refine wpOpsIn_skip (w' := putAll W8 H 0 (msgEnc msg0)) rfl rfl rfl ?_ ?_
   ·rw [semAt_wide, <- putAll_setCells]
    exact store_op _ _ _ _ rfl H _ W8 hr8 rfl msg0 rfl rfl
   generalize hPP : putAll W8 H 0 (msgEnc msg0) = P2 at kP bP tP ⊢
   have y2 := tP.cell (o := 0) rfl
   have f2 := tP.frozen 0
   refine wpOpsIn_skip (w' := P2.setCell ⟨H + 1, 0, none⟩ (.bool false)) rfl rfl rfl ?_ ?_
   ·rw [semAt_wide]
    go_simp
   have kQ : Kept (· = H + 1) P2 (P2.setCell ⟨H + 1, 0, none⟩ (.bool false)) := (Kept.refl _ _).setCell (.inl (by rfl)) _
   have kF : Kept (fun k => k = H \/ k = H + 1) W8 (P2.setCell ⟨H + 1, 0, none⟩ (.bool false)) := (kP.mono (fun _ _ h => .inl h)).trans (kQ.mono (fun _ _ h => .inr h))
   have hd9 := kF.heap hd8 (by omega)
   have hr9 : BoxAt _ H 140 (msgCells msg0) := bP.kept kQ (by omega)
   have ht9 := tP.setAt 0 (.bool false)
   generalize P2.setCell ⟨H + 1, 0, none⟩ (.bool false) = W9 at kF hd9 hr9 ht9 ⊢
   have k10 : Kept (· = D) W9 (W9.putObj D (.deferred none)) := Kept.putObj _ _ _ rfl
   have hr10 := hr9.kept k10 (by omega)
   have ht10 := ht9.kept k10 (by omega)
   obtain ⟨u0, u1, u2, u3, u4, u5, u6, u7, u8, u9, u10, u11, u12, u13, u14⟩ := cells15 hr10
   have uy := ht10.cell (o := 0) rfl
   refine wpIn_ret ?_
   refine ⟨by simp, .inl ⟨_, _, rfl, run_takeDeferred hd9, ?_⟩⟩
   refine ⟨.tuple #[msgV msg0, .bool false], ?_, _, rfl, by rw [HO.out], HOUT.out _ (((k8.mono (fun _ _ h => by omega)).trans (kF.mono (fun _ _ h => by omega))).trans (k10.mono (fun _ _ h => by omega)))⟩
   simp [results, Tryz.f162, go_sem, u0, u1, u2, u3, u4, u5, u6, u7, u8, u9, u10, u11, u12, u13, u14, uy]
  ·have HO : Hid (oldestS l = (x, true)) := by show _ = _; simp [oldestS, hxy]
   refine ⟨⟨_, rfl⟩, .inr ⟨.ret, hl1, ?_⟩⟩
   have k8 : Kept (· = D + 1) W' (W'.putObj (D + 1) (.loop (rec .exhausted (some .ret)))) := Kept.putObj _ _ _ rfl
   generalize W'.putObj (D + 1) (.loop (rec .exhausted (some .ret))) = W8 at k8 ⊢
   have hd9 := k8.heap hd1 (by omega)
   have hr9 := hr1.kept k8 (by omega)
   have ht9 := ht1.kept k8 (by omega)
   refine wpIn_ret ?_
   have k10 : Kept (· = D) W8 (W8.putObj D (.deferred none)) := Kept.putObj _ _ _ rfl
   have hr10 := hr9.kept k10 (by omega)
   have ht10 := ht9.kept k10 (by omega)
   obtain ⟨u0, u1, u2, u3, u4, u5, u6, u7, u8, u9, u10, u11, u12, u13, u14⟩ := cells15 hr10
   have uy := ht10.cell (o := 0) rfl
   refine ⟨by simp, .inl ⟨_, _, rfl, run_takeDeferred hd9, ?_⟩⟩
   refine ⟨.tuple #[msgV x, .bool true], ?_, _, rfl, by rw [HO.out], HOUT.out _ ((k8.mono (fun _ _ h => by omega)).trans (k10.mono (fun _ _ h => by omega)))⟩
   simp [results, Tryz.f162, go_sem, u0, u1, u2, u3, u4, u5, u6, u7, u8, u9, u10, u11, u12, u13, u14, uy]
end Go.Proofs.YteahdfeialekbaaGreatDoor
namespace Go.Proofs.YteahdfeialekbaaGreatDoor
open Go Go.RowKit
attribute [local go_sem] Oper.semAt_some
theorem again_calls (g o : Nat) (w : World) : Calls Tryz.prog 146 #[.pointer (some ⟨g, o, none⟩)] w fun e w' => e = .returned (.func (.func 161) #[] #[.pointer (some ⟨w.heap.size, 0, none⟩)]) /\ w' = w.alloc (Obj.cells #[.pointer (some ⟨g, o, none⟩)] 204) := by
 go_enter Tryz.func146, Tryz.ntmps146
 go_wp2_with fail
 go_ret
 exact ⟨rfl, rfl⟩
theorem oldestS_again (s : RunS) (l : LinkS) (h0 : 0 <= l.known) : againS s l = if (oldestS l).2 = true then wayS s (oldestS l).1 else s := by
 obtain ⟨z, hz⟩ := Int.eq_ofNat_of_zero_le h0
 unfold againS oldestS LinkS.left
 rw [hz]
 simp only [Int.toNat_natCast]
 by_cases h : z < l.all.length
 ·rw [if_pos (by omega), List.drop_eq_getElem_cons h]
  simp [h]
 ·rw [if_neg (by omega), List.drop_eq_nil_of_le (by omega)]
  simp
theorem links_same {s : RunS} {k j : Nat} {ls : List LinkS} {l : LinkS} (hls : s.links[k]? = some ls) (hl : ls[j]? = some l) : { s with links := s.links.set k (ls.set j l) } = s := by
 obtain ⟨h1, rfl⟩ := List.getElem?_eq_some_iff.1 hl
 rw [List.set_getElem_self]
 obtain ⟨h2, rfl⟩ := List.getElem?_eq_some_iff.1 hls
 rw [List.set_getElem_self]
set_option maxHeartbeats 8000000 in
set_option maxRecDepth 100000 in
theorem again1_calls (n l k Bq : Nat) (part : Nat -> Nat) (w : World) (B M : Nat) (s : RunS) (kv yv : Value) (gw wc : Nat) (xs : List XW) (ls : List LinkS) (Z : Nat -> Prop) (Rec : World -> Prop) (h : XAtO part w B s kv (.slice (some ⟨gw, 0, none⟩) xs.length wc) yv M xs) (hls : s.links[k]? = some ls) (hkl : k < xs.length) (hkn : ∀ l ∈ ls, 0 <= l.known) (hall : ∀ l ∈ ls, l.all.length <= 100000000) (hy : s.way.length <= 60)
  (hZ : ∀ b, Z b -> b < w.heap.size /\ part b = 0) (hRec : ∀ A A', Rec A -> Kept (fun b => ¬ Z b) A A' -> Rec A') (h0 : Rec w) (hBq : BoxAt w Bq 204 #[.pointer (some ⟨gw, k * 7, none⟩)]) (hZq : Z Bq)
  (hY : ∀ s' part' yv' m W1, XAtO part' W1 B s' kv (.slice (some ⟨gw, 0, none⟩) xs.length wc) yv' M xs -> XMoved part part' w W1 -> Rec W1 -> s'.way.length <= 60 -> YieldAt Fence.wide (n - 1) Tryz.prog l #[msgV m] W1 fun e W' => e = .returned (.bool true) /\ ∃ part2 yv2, XAtO part2 W' B (wayS s' m) kv (.slice (some ⟨gw, 0, none⟩) xs.length wc) yv2 M xs /\ XMoved part part2 w W' /\ Kept (fun b => Z b -> b = l) W1 W' /\ Rec W') (hlq : l ≠ Bq) :
  CallsIn Fence.wide n Tryz.prog 161 (#[.func (.yield l) #[] #[]] ++ #[.pointer (some ⟨Bq, 0, none⟩)]) w fun e W' => (∃ v, e = .returned v) /\ (∃ part2 yv2, XAtO part2 W' B (ls.foldl againS s) kv (.slice (some ⟨gw, 0, none⟩) xs.length wc) yv2 M xs /\ XMoved part part2 w W') /\ Rec W' := by
 obtain ⟨x, hx⟩ : ∃ x, xs[k]? = some x := ⟨_, List.getElem?_eq_getElem hkl⟩
 have hll : ls.length = xs.length := by rw [h.lrow ls (List.mem_of_getElem? hls), h.wlen]
 obtain ⟨g, gc, hvf⟩ : ∃ g gc, x.outv = .slice (some ⟨g, 0, none⟩) ls.length gc := by
  obtain ⟨qs, h1, h2, h3⟩ := h.lat k x ls hx hls
  obtain ⟨g, c, h4, -, -⟩ := World.ownsRow.form h1.1 (by omega)
  exact ⟨g, c, by rw [h4, h2]⟩
 have c1 : w.cell? ⟨gw, k * 7 + 2, none⟩ = some (.slice (some ⟨g, 0, none⟩) ls.length gc) := by
  have := h.wrow.1.cells (g := gw) rfl (k * 7 + 2) _ (flat_get (sz := 7) (enc := xwEnc) (fun _ => rfl) xs k x 2 _ hx rfl)
  rwa [addr_add, hvf] at this
 have q0 := hBq.cell (o := 0) rfl
 have hl5 : ls.length <= 5 := by rw [h.lrow ls (List.mem_of_getElem? hls)]; exact h.five
 have HH := hid_of h
 have HZ := hid_of hZ
 have HRC := hid_of hRec
 have HR0 := hid_of h0
 have HBQ := hid_of hBq
 have HYY := hid_of hY
 have HX : Hid (xs[k]? = some x) := hx
 have HLS : Hid (s.links[k]? = some ls) := hls
 have HVF : Hid (x.outv = .slice (some ⟨g, 0, none⟩) ls.length gc) := hvf
 have HASIDE : Hid (∀ part' wr b, XMoved part part' w wr -> Z b -> part' b = 0) := fun part' wr b hm hb => by
  rcases Nat.eq_zero_or_pos (part' b) with h | h
  ·exact h
  ·exact absurd (HZ.out b hb).2 (hm.old b (HZ.out b hb).1 (by omega))
 clear h hZ hRec h0 hBq hY hx hls hvf
 refine callsIn_of_wp Tryz.func161 rfl trivial ?_ rfl
 simp only [Tryz.ntmps161, List.size_toArray, List.length_cons, List.length_nil, Nat.reduceAdd, Nat.reduceSub, Array.replicate_succ, Array.replicate_zero, List.push_toArray, List.append_toArray, List.nil_append, List.cons_append]
 gi_wp2
 gi_loopw [12] (fun iv wr => ∃ (j : Nat) (part' : Nat -> Nat) (yv' : Value), j <= ls.length /\ iv = .int .i64 j /\ XAtO part' wr B ((ls.take j).foldl againS s) kv (.slice (some ⟨gw, 0, none⟩) xs.length wc) yv' M xs /\ XMoved part part' w wr /\ Rec wr /\ BoxAt wr Bq 204 #[.pointer (some ⟨gw, k * 7, none⟩)]) (fun iv _ => ls.length - (intOf iv).toNat)
 case atStart => exact ⟨0, part, yv, Nat.zero_le _, rfl, HH.out, XMoved.refl _ _, HR0.out, HBQ.out⟩
 case round =>
  obtain ⟨j, part', yv', hj, rfl, h, hm, hrc, hbq⟩ := hrel
  rename World => wr
  obtain ⟨y9, hy9, hy60⟩ := again_fold (ls.take j) s
  obtain ⟨s', hs'⟩ : ∃ s', (ls.take j).foldl againS s = s' := ⟨_, rfl⟩
  rw [hs'] at hy9 h
  have hlk : s'.links = s.links := by rw [hy9]
  have hway : s'.way.length <= 60 := by rw [hy9]; exact hy60 hy
  have HM := hid_of hm
  have HRW := hid_of hrc
  have HBW := hid_of hbq
  have HX' := hid_of h
  have HS' : Hid ((ls.take j).foldl againS s = s') := hs'
  have HLK : Hid (s'.links = s.links) := hlk
  have HWAY : Hid (s'.way.length <= 60) := hway
  clear hm hrc hbq h hs' hy9 hy60 hlk hway c1 q0
  by_cases hlt : j < ls.length
  ·obtain ⟨lk, hlk⟩ : ∃ lk, ls[j]? = some lk := ⟨_, List.getElem?_eq_getElem hlt⟩
   have hmem := List.mem_of_getElem? hlk
   have HNX : Hid ((ls.take (j + 1)).foldl againS s = againS s' lk) := by
    show _ = _
    rw [List.take_add_one, hlk, List.foldl_append, HS'.out]; rfl
   obtain ⟨qs, hqr, hql, hqe⟩ := HX'.out.lat k x ls HX.out (by rw [HLK.out]; exact HLS.out)
   rw [HVF.out] at hqr
   obtain ⟨oq, hoq⟩ : ∃ q, qs[j]? = some q := ⟨_, List.getElem?_eq_getElem (by omega)⟩
   have hend := hqe j oq lk hoq hlk
   have cj : wr.cell? ⟨g, j, none⟩ = some (.pointer (oq.map (fun b => (⟨b, 0, none⟩ : Addr)))) := by
    have := hqr.1.cells (g := g) rfl (j * 1 + 0) _ (flat_get (sz := 1) (enc := optEnc) (fun _ => rfl) qs j oq 0 _ hoq rfl)
    rw [addr_add] at this
    simpa using this
   have j1 : (0 : Int) <= (j : Int) := by omega
   have j2 : (j : Int) < (ls.length : Int) := by omega
   have HKN := hid_of (hkn lk hmem)
   have HALL := hid_of (hall lk hmem)
   cases oq with
   | none =>
    have HAG : Hid (againS s' lk = s') := by
     show _ = _
     unfold againS
     rw [if_neg (by rw [hend.2]; simp; exact HKN.out)]
    simp only [Option.map_none] at cj
    clear hqr hqe hend hlk
    gi_wp2
    go_roundw
    case rel => exact ⟨j + 1, part', yv', by omega, by go_num, by rw [HNX.out, HAG.out]; exact HX'.out, HM.out, HRW.out, HBW.out⟩
    case measure => simp [intOf]; omega
   | some q =>
    obtain ⟨hjk, hout⟩ := hend
    simp only [Option.map_some] at cj
    have HQR := hid_of hqr
    have HQE := hid_of hqe
    have HOUT : Hid (OutAt (fun b => part' b = 100 + 10 * k + j /\ b < wr.heap.size) wr q lk) := hout.kept (Kept.refl (fun _ => False) wr) (fun b hb h => ⟨fun h => h, h, hb⟩)
    have HLKJ : Hid (ls[j]? = some lk) := hlk
    have HOQ : Hid (qs[j]? = some (some q)) := hoq
    have HQL : Hid (qs.length = ls.length) := hql
    clear hqr hqe hout hlk hoq hql
    gi_wp2
    refine ⟨trivial, fun h => (by cases h), ?_⟩
    refine callsIn_wide.2 ?_
    refine (oldest_out _ q lk wr HOUT.out HALL.out).mono ?_
    rintro e w2 ⟨v2, rfl, rfl, ho2, hk2'⟩
    have hk2 : Kept (fun b => part' b = 100 + 10 * k + j) wr w2 := hk2'.mono (fun b _ h => h.1)
    obtain ⟨h3, hm3⟩ := HX'.out.relink (l' := lk) HX.out (by rw [HLK.out]; exact HLS.out) hjk (by rw [HVF.out]; exact HQR.out) HQL.out HQE.out HOQ.out HLKJ.out (InLike.refl _) hk2 ho2
    rw [links_same (by rw [HLK.out]; exact HLS.out) HLKJ.out] at h3
    obtain ⟨part3, hp3⟩ : ∃ p, p = ext wr part' (100 + 10 * k + j) := ⟨_, rfl⟩
    rw [<- hp3] at h3 hm3
    have hM3 := HM.out.trans hm3
    have hz3 : Kept (fun b => ¬ Z b) wr w2 := hk2.mono (fun b _ e hb => by have := HASIDE.out part' wr b HM.out hb; omega)
    have hr3 := HRC.out _ _ HRW.out hz3
    have hb3 := HBW.out.kept hz3 (fun h => h hZq)
    have HX3 := hid_of h3
    have HM3 := hid_of hM3
    have HR3 := hid_of hr3
    have HB3 := hid_of hb3
    have HAG := hid_of (oldestS_again s' lk HKN.out)
    obtain ⟨om, hom⟩ : ∃ om, (oldestS lk).1 = om := ⟨_, rfl⟩
    obtain ⟨ob, hob⟩ : ∃ ob, (oldestS lk).2 = ob := ⟨_, rfl⟩
    rw [hom, hob] at HAG
    rw [hom, hob]
    obtain ⟨U, hU⟩ : ∃ U, w2.alloc (Obj.cells (msgCells om) 140) = U := ⟨_, rfl⟩
    have gU : Below w2.heap.size w2 U := by rw [<- hU]; exact (Below.refl _ _).alloc (Nat.le_refl _) _
    have bU : BoxAt U w2.heap.size 140 (msgCells om) := by rw [<- hU]; exact BoxAt.new w2 _ _
    obtain ⟨h4, hm4⟩ := HX3.out.later gU
    have kU : Kept (fun b => ¬ Z b) w2 U := Kept.of_below gU (fun b h1 h2 => absurd h1 (by omega))
    have HX4 := hid_of h4
    have HM4 := hid_of (HM3.out.trans hm4)
    have HR4 := hid_of (HRC.out _ _ HR3.out kU)
    have HB4 := hid_of (HB3.out.kept kU (fun h => h hZq))
    clear h3 hm3 hM3 hz3 hr3 hb3 hp3 ho2 hk2 hk2' hom hob h4 hm4 kU gU cj HOUT HQR HQE
    cases ob with
    | false =>
     have HAF : Hid (againS s' lk = s') := HAG.out.trans (if_neg (by simp))
     clear bU
     gi_wp2
     refine ⟨(fun f hf => by cases hf), ?_⟩
     gi_wp2
     go_roundw
     case rel => exact ⟨j + 1, _, _, by omega, by go_num, by rw [HNX.out, HAF.out]; exact HX4.out, HM4.out, HR4.out, HB4.out⟩
     case measure => simp [intOf]; omega
    | true =>
     have HAT : Hid (againS s' lk = wayS s' om) := HAG.out.trans (if_pos rfl)
     obtain ⟨m0, m1, m2, m3, m4, m5, m6, m7, m8, m9, m10, m11, m12, m13, m14⟩ := cells15 bU
     obtain ⟨fn, tmps, assign, body, hyy, hR⟩ := HYY.out s' _ _ om U HX4.out HM4.out HR4.out HWAY.out
     have HR := hid_of hR
     clear hR bU
     gi_wp2
     refine ⟨fun h => (by cases h), ?_⟩
     refine HR.out.mono ?_
     rintro e W4 ⟨rfl, part5, yv5, h5, hm5, hk5, hr5⟩
     have HX5 := hid_of h5
     have HM5 := hid_of hm5
     have HR5 := hid_of hr5
     have HB5 := hid_of (HB4.out.kept hk5 (fun h => hlq (h hZq).symm))
     clear h5 hm5 hr5 hk5
     gi_wp2
     go_roundw
     case rel => exact ⟨j + 1, part5, yv5, by omega, by go_num, by rw [HNX.out, HAT.out]; exact HX5.out, HM5.out, HR5.out, HB5.out⟩
     case measure => simp [intOf]; omega
  ·obtain rfl : j = ls.length := by omega
   gi_wp2
   go_end0
   refine ⟨⟨_, rfl⟩, ⟨part', yv', ?_, HM.out⟩, HRW.out⟩
   have := HS'.out
   rw [List.take_length] at this
   rw [this]
   exact HX'.out
end Go.Proofs.YteahdfeialekbaaGreatDoor
