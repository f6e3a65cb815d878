/-
  Run.send of the project: a thing is sent on a link, and a message with it is put on its way.
-/
import Derived.Test.YteahdfeialekbaaGreatDoorXOut
import Derived.Test.YteahdfeialekbaaGreatDoorXPut
import Derived.Deep.RegionHeld3
namespace Go.Proofs.YteahdfeialekbaaGreatDoor
open Go Go.RowKit
def postS (s : RunS) (i j : Nat) (m : MsgS) : RunS :=
 let ls := s.links[i]?.getD []
 let l := ls[j]?.getD link0
 wayS { s with links := s.links.set i (ls.set j (l.sent m)) } { m with no := (l.all.length : Int) + 1 }
theorem xlink {part : Nat -> Nat} {i j : Nat} {w : World} {v : Value} {ls : List LinkS} {l : LinkS} (h : XLinksAt part i w v ls) (hj : ls[j]? = some l) (hij : j ≠ i) : ∃ (qs : List (Option Nat)) (q g c : Nat), RowIn (fun b => part b = 9) 198 1 optEnc w v qs /\ qs.length = ls.length /\ (∀ j q l, qs[j]? = some q -> ls[j]? = some l -> EndAt part i j w l q) /\ qs[j]? = some (some q) /\ OutAt (fun b => part b = 100 + 10 * i + j) w q l /\ v = .slice (some ⟨g, 0, none⟩) qs.length c /\ w.cell? ⟨g, j, none⟩ = some (.pointer (some ⟨q, 0, none⟩)) /\ g < w.heap.size := by
 obtain ⟨qs, h1, h2, h3⟩ := h
 have hjl := (List.getElem?_eq_some_iff.1 hj).1
 obtain ⟨oq, hoq⟩ : ∃ q, qs[j]? = some q := ⟨_, List.getElem?_eq_getElem (by omega)⟩
 have he := h3 j oq l hoq hj
 cases oq with
 | none => exact absurd he.1 hij
 | some q =>
  obtain ⟨g, c, rfl, -, hgl⟩ := World.ownsRow.form h1.1 (by omega)
  refine ⟨qs, q, g, c, h1, h2, h3, hoq, he.2, rfl, ?_, hgl⟩
  have := h1.1.cells (g := g) rfl (j * 1 + 0) _ (flat_get (sz := 1) (enc := optEnc) (fun _ => rfl) qs j (some q) 0 _ hoq rfl)
  rw [addr_add] at this
  simpa using this
set_option maxHeartbeats 8000000 in
set_option maxRecDepth 100000 in
theorem send_x (i j : Nat) (m : MsgS) (b : Nat) {part : Nat -> Nat} {w : World} {B M : Nat} {s : RunS} {kv wv yv : Value} {xs : List XW} {ls : List LinkS} {l : LinkS} (h : XAtO part w B s kv wv yv M xs) (hls : s.links[i]? = some ls) (hl : ls[j]? = some l) (hij : j ≠ i) (hk : l.known.toNat <= l.all.length) (hn : l.all.length <= 100000000) (hy : s.way.length <= 1000) (hm : BoxAt w b 140 (msgCells m)) :
  Calls Tryz.prog 138 #[.pointer (some ⟨B, 0, none⟩), .int .i64 (i : Int), .int .i64 (j : Int), .slice (some ⟨b, 0, none⟩) 1 1] w fun e w' => ∃ v, e = .returned v /\ (v = .tuple #[] /\ ∃ part' yv', XAtO part' w' B (postS s i j { m with src := (i : Int), dst := (j : Int) }) kv wv yv' M xs /\ XMoved part part' w w') := by
 have hil : i < s.W.length := by have := (List.getElem?_eq_some_iff.1 hls).1; have := h.llen; omega
 have hxl := h.wlen
 obtain ⟨x, hx⟩ : ∃ x, xs[i]? = some x := ⟨_, List.getElem?_eq_getElem (by omega)⟩
 obtain ⟨gw, wc, hwf, -, hgw⟩ := World.ownsRow.form h.wrow.1 (by omega)
 subst hwf
 obtain ⟨Z, hZ⟩ : ∃ Z, w.alloc (Obj.cells (msgCells m) 140) = Z := ⟨_, rfl⟩
 have gZ : Below w.heap.size w Z := by rw [<- hZ]; exact (Below.refl _ _).alloc (Nat.le_refl _) _
 have bZ : BoxAt Z w.heap.size 140 (msgCells m) := by rw [<- hZ]; exact BoxAt.new w _ _
 obtain ⟨Y, hY⟩ : ∃ Y, (Z.setCell ⟨w.heap.size, 0, none⟩ (.int .i64 (i : Int))).setCell ⟨w.heap.size, 1, none⟩ (.int .i64 (j : Int)) = Y := ⟨_, rfl⟩
 have gY : Below w.heap.size w Y := by rw [<- hY]; exact (gZ.setCell (p := ⟨w.heap.size, 0, none⟩) (Nat.le_refl _) _).setCell (p := ⟨w.heap.size, 1, none⟩) (Nat.le_refl _) _
 have bY : BoxAt Y w.heap.size 140 (msgCells { m with src := (i : Int), dst := (j : Int) }) := by rw [<- hY]; exact (bZ.setAt 0 _).setAt 1 _
 obtain ⟨h2, hm2⟩ := h.later gY
 obtain ⟨qs, q, g, gc, hqr, hql, hqe, hq, hout, hvf, hcq, hgq⟩ := xlink (h2.lat i x ls hx hls) hl hij
 have b3 : Y.cell? ⟨B, 3, none⟩ = some (.slice (some ⟨gw, 0, none⟩) xs.length wc) := h2.box.cell (o := 3) rfl
 have w1 : Y.cell? ⟨gw, i * 7 + 2, none⟩ = some (.slice (some ⟨g, 0, none⟩) qs.length gc) := by
  have := h2.wrow.1.cells (g := gw) rfl (i * 7 + 2) _ (flat_get (sz := 7) (enc := xwEnc) (fun _ => rfl) xs i x 2 _ hx rfl)
  rwa [addr_add, hvf] at this
 have z0 := bZ.cell (o := 0) rfl
 have z1 := bZ.cell (o := 1) rfl
 have f0 := bZ.frozen 0
 have f1 := bZ.frozen 1
 have i0 : (0 : Int) <= (i : Int) := by omega
 have i1 : (i : Int) < (xs.length : Int) := by omega
 have j0 : (0 : Int) <= (j : Int) := by omega
 have hjl := (List.getElem?_eq_some_iff.1 hl).1
 have j1 : (j : Int) < (qs.length : Int) := by omega
 obtain ⟨c0, c1, c2, c3, c4, c5, c6, c7, c8, c9, c10, c11, c12, c13, c14⟩ := cells15 hm
 obtain ⟨n0, n1, n2, n3, n4, n5, n6, n7, n8, n9, n10, n11, n12, n13, n14⟩ := cells15 bY
 have HP : Hid (postS s i j { m with src := (i : Int), dst := (j : Int) } = wayS { s with links := s.links.set i (ls.set j (l.sent { m with src := (i : Int), dst := (j : Int) })) } { m with src := (i : Int), dst := (j : Int), no := (l.all.length : Int) + 1 }) := by show _ = _; simp [postS, hls, hl]
 have HS0 : Hid (∀ U, ∀ {X : Nat -> Prop}, Kept X Y U -> (∀ g, X g -> 100 <= ext w part 0 g /\ g < Y.heap.size \/ ext w part 0 g = 2 /\ g < Y.heap.size) -> U.cell? ⟨B, 3, none⟩ = some (.slice (some ⟨gw, 0, none⟩) xs.length wc) /\ U.cell? ⟨gw, i * 7 + 2, none⟩ = some (.slice (some ⟨g, 0, none⟩) qs.length gc) /\ U.cell? ⟨g, j, none⟩ = some (.pointer (some ⟨q, 0, none⟩)) /\ U.cell? ⟨w.heap.size, 0, none⟩ = some (.int .i64 (i : Int)) /\ U.cell? ⟨w.heap.size, 1, none⟩ = some (.int .i64 (j : Int)) /\ U.cell? ⟨w.heap.size, 2, none⟩ = some (.int .i64 m.no) /\ U.cell? ⟨w.heap.size, 3, none⟩ = some (.int .i64 m.kind) /\ U.cell? ⟨w.heap.size, 4, none⟩ = some (.string m.t.id) /\ U.cell? ⟨w.heap.size, 5, none⟩ = some (.int .i64 m.t.kind) /\ U.cell? ⟨w.heap.size, 6, none⟩ = some (.int .i64 m.t.arg) /\ U.cell? ⟨w.heap.size, 7, none⟩ = some (.string m.v.1) /\ U.cell? ⟨w.heap.size, 8, none⟩ = some (.int .i64 m.v.2) /\ U.cell? ⟨w.heap.size, 9, none⟩ = some (.bool m.black) /\ U.cell? ⟨w.heap.size, 10, none⟩ = some (.bool m.idle) /\ U.cell? ⟨w.heap.size, 11, none⟩ = some (.int .i64 m.count) /\ U.cell? ⟨w.heap.size, 12, none⟩ = some (.int .i64 m.round) /\ U.cell? ⟨w.heap.size, 13, none⟩ = some (.int .i64 m.sent) /\ U.cell? ⟨w.heap.size, 14, none⟩ = some (.int .i64 m.came)) := fun U X hU hX => by
  have hp : ∀ g, X g -> ext w part 0 g ≠ 1 /\ ext w part 0 g ≠ 7 /\ ext w part 0 g ≠ 9 /\ ext w part 0 g ≠ 0 := fun g hg => by have := hX g hg; omega
  have c1 : ¬ X B := fun h => (hp B h).1 h2.pB
  have c2 : ¬ X gw := fun h => (hp gw h).2.1 (h2.wrow.2 gw rfl)
  have c3 : ¬ X g := fun h => (hp g h).2.2.1 (hqr.2 g (by rw [hvf]; rfl))
  have c4 : ¬ X w.heap.size := fun h => (hp _ h).2.2.2 (ext_new (Nat.le_refl _))
  refine ⟨(hU.cell (p := ⟨B, 3, none⟩) h2.box.lt c1).trans b3, (hU.cell (p := ⟨gw, i * 7 + 2, none⟩) (Nat.lt_of_lt_of_le hgw gY.size) c2).trans w1, (hU.cell (p := ⟨g, j, none⟩) hgq c3).trans hcq, (hU.cell (p := ⟨w.heap.size, 0, none⟩) bY.lt c4).trans n0, (hU.cell (p := ⟨w.heap.size, 1, none⟩) bY.lt c4).trans n1, (hU.cell (p := ⟨w.heap.size, 2, none⟩) bY.lt c4).trans n2, (hU.cell (p := ⟨w.heap.size, 3, none⟩) bY.lt c4).trans n3, (hU.cell (p := ⟨w.heap.size, 4, none⟩) bY.lt c4).trans n4, (hU.cell (p := ⟨w.heap.size, 5, none⟩) bY.lt c4).trans n5, (hU.cell (p := ⟨w.heap.size, 6, none⟩) bY.lt c4).trans n6, (hU.cell (p := ⟨w.heap.size, 7, none⟩) bY.lt c4).trans n7, (hU.cell (p := ⟨w.heap.size, 8, none⟩) bY.lt c4).trans n8, (hU.cell (p := ⟨w.heap.size, 9, none⟩) bY.lt c4).trans n9, (hU.cell (p := ⟨w.heap.size, 10, none⟩) bY.lt c4).trans n10, (hU.cell (p := ⟨w.heap.size, 11, none⟩) bY.lt c4).trans n11, (hU.cell (p := ⟨w.heap.size, 12, none⟩) bY.lt c4).trans n12, (hU.cell (p := ⟨w.heap.size, 13, none⟩) bY.lt c4).trans n13, (hU.cell (p := ⟨w.heap.size, 14, none⟩) bY.lt c4).trans n14⟩
 have HSE : Hid (∀ U, Below Y.heap.size Y U -> Calls Tryz.prog 159 #[.pointer (some ⟨q, 0, none⟩), .agg (msgCells { m with src := (i : Int), dst := (j : Int) })] U fun e w' => ∃ v, e = .returned v /\ (v = .agg (msgCells { m with src := (i : Int), dst := (j : Int), no := (l.all.length : Int) + 1 }) /\ ∃ part3, XAtO part3 w' B { s with links := s.links.set i (ls.set j (l.sent { m with src := (i : Int), dst := (j : Int) })) } kv (.slice (some ⟨gw, 0, none⟩) xs.length wc) yv M xs /\ XMoved part part3 w w' /\ part3 w.heap.size = 0 /\ (w'.cell? ⟨B, 3, none⟩ = some (.slice (some ⟨gw, 0, none⟩) xs.length wc) /\ w'.cell? ⟨gw, i * 7 + 2, none⟩ = some (.slice (some ⟨g, 0, none⟩) qs.length gc) /\ w'.cell? ⟨g, j, none⟩ = some (.pointer (some ⟨q, 0, none⟩)) /\ w'.cell? ⟨w.heap.size, 0, none⟩ = some (.int .i64 (i : Int)) /\ w'.cell? ⟨w.heap.size, 1, none⟩ = some (.int .i64 (j : Int)) /\ w'.cell? ⟨w.heap.size, 2, none⟩ = some (.int .i64 m.no) /\ w'.cell? ⟨w.heap.size, 3, none⟩ = some (.int .i64 m.kind) /\ w'.cell? ⟨w.heap.size, 4, none⟩ = some (.string m.t.id) /\ w'.cell? ⟨w.heap.size, 5, none⟩ = some (.int .i64 m.t.kind) /\ w'.cell? ⟨w.heap.size, 6, none⟩ = some (.int .i64 m.t.arg) /\ w'.cell? ⟨w.heap.size, 7, none⟩ = some (.string m.v.1) /\ w'.cell? ⟨w.heap.size, 8, none⟩ = some (.int .i64 m.v.2) /\ w'.cell? ⟨w.heap.size, 9, none⟩ = some (.bool m.black) /\ w'.cell? ⟨w.heap.size, 10, none⟩ = some (.bool m.idle) /\ w'.cell? ⟨w.heap.size, 11, none⟩ = some (.int .i64 m.count) /\ w'.cell? ⟨w.heap.size, 12, none⟩ = some (.int .i64 m.round) /\ w'.cell? ⟨w.heap.size, 13, none⟩ = some (.int .i64 m.sent) /\ w'.cell? ⟨w.heap.size, 14, none⟩ = some (.int .i64 m.came)))) := fun U hU => by
  have hoU : OutAt (fun b => ext w part 0 b = 100 + 10 * i + j /\ b < Y.heap.size) U q l := hout.kept (Kept.of_below hU (X := fun b => Y.heap.size <= b) (fun _ _ h => h)) (fun g hg h => ⟨by omega, h, hg⟩)
  refine (send_out _ q l { m with src := (i : Int), dst := (j : Int) } U hoU hk hn).mono ?_
  rintro e w' ⟨v, rfl, rfl, ho, hko⟩
  have zU := hU.size
  have hKK : Kept (fun g => ext w part 0 g = 100 + 10 * i + j) Y w' := (Kept.of_below hU (X := fun g => ext w part 0 g = 100 + 10 * i + j) (fun b h1 h2 => by omega)).andThen hko (fun b hb h => h.1)
  obtain ⟨h3, hm3⟩ := h2.relink (l' := l.sent { m with src := (i : Int), dst := (j : Int) }) hx hls hij hqr hql hqe hq hl ⟨rfl, rfl, _, rfl⟩ hKK (ho.kept (Kept.refl (fun _ => False) w') (fun b _ h => ⟨fun h => h, by
   rcases h with h | h
   ·exact .inl h
   ·exact .inr (by omega)⟩))
  have hst := HS0.out w' ((Kept.of_below hU (X := fun g => (ext w part 0 g = 100 + 10 * i + j /\ g < Y.heap.size)) (fun b h1 h2 => by omega)).trans hko) (fun g hg => by omega)
  exact ⟨_, rfl, rfl, _, h3, hm2.trans hm3, (ext_old bY.lt).trans (ext_new (Nat.le_refl _)), hst⟩
 have HPU : Hid (∀ part3 U, XAtO part3 U B { s with links := s.links.set i (ls.set j (l.sent { m with src := (i : Int), dst := (j : Int) })) } kv (.slice (some ⟨gw, 0, none⟩) xs.length wc) yv M xs -> XMoved part part3 w U -> part3 w.heap.size = 0 -> (U.cell? ⟨B, 3, none⟩ = some (.slice (some ⟨gw, 0, none⟩) xs.length wc) /\ U.cell? ⟨gw, i * 7 + 2, none⟩ = some (.slice (some ⟨g, 0, none⟩) qs.length gc) /\ U.cell? ⟨g, j, none⟩ = some (.pointer (some ⟨q, 0, none⟩)) /\ U.cell? ⟨w.heap.size, 0, none⟩ = some (.int .i64 (i : Int)) /\ U.cell? ⟨w.heap.size, 1, none⟩ = some (.int .i64 (j : Int)) /\ U.cell? ⟨w.heap.size, 2, none⟩ = some (.int .i64 m.no) /\ U.cell? ⟨w.heap.size, 3, none⟩ = some (.int .i64 m.kind) /\ U.cell? ⟨w.heap.size, 4, none⟩ = some (.string m.t.id) /\ U.cell? ⟨w.heap.size, 5, none⟩ = some (.int .i64 m.t.kind) /\ U.cell? ⟨w.heap.size, 6, none⟩ = some (.int .i64 m.t.arg) /\ U.cell? ⟨w.heap.size, 7, none⟩ = some (.string m.v.1) /\ U.cell? ⟨w.heap.size, 8, none⟩ = some (.int .i64 m.v.2) /\ U.cell? ⟨w.heap.size, 9, none⟩ = some (.bool m.black) /\ U.cell? ⟨w.heap.size, 10, none⟩ = some (.bool m.idle) /\ U.cell? ⟨w.heap.size, 11, none⟩ = some (.int .i64 m.count) /\ U.cell? ⟨w.heap.size, 12, none⟩ = some (.int .i64 m.round) /\ U.cell? ⟨w.heap.size, 13, none⟩ = some (.int .i64 m.sent) /\ U.cell? ⟨w.heap.size, 14, none⟩ = some (.int .i64 m.came)) -> Calls Tryz.prog 144 #[.pointer (some ⟨B, 4, none⟩), .slice (some ⟨U.heap.size, 0, none⟩) 1 1] (U.alloc (Obj.cells (msgCells { m with src := (i : Int), dst := (j : Int), no := (l.all.length : Int) + 1 }) 140)) fun e w' => ∃ v, e = .returned v /\ (v = .tuple #[] /\ (∃ part' yv', XAtO part' w' B (postS s i j { m with src := (i : Int), dst := (j : Int) }) kv (.slice (some ⟨gw, 0, none⟩) xs.length wc) yv' M xs /\ XMoved part part' w w') /\ (w'.cell? ⟨B, 3, none⟩ = some (.slice (some ⟨gw, 0, none⟩) xs.length wc) /\ w'.cell? ⟨gw, i * 7 + 2, none⟩ = some (.slice (some ⟨g, 0, none⟩) qs.length gc) /\ w'.cell? ⟨g, j, none⟩ = some (.pointer (some ⟨q, 0, none⟩)) /\ w'.cell? ⟨w.heap.size, 0, none⟩ = some (.int .i64 (i : Int)) /\ w'.cell? ⟨w.heap.size, 1, none⟩ = some (.int .i64 (j : Int)) /\ w'.cell? ⟨w.heap.size, 2, none⟩ = some (.int .i64 m.no) /\ w'.cell? ⟨w.heap.size, 3, none⟩ = some (.int .i64 m.kind) /\ w'.cell? ⟨w.heap.size, 4, none⟩ = some (.string m.t.id) /\ w'.cell? ⟨w.heap.size, 5, none⟩ = some (.int .i64 m.t.kind) /\ w'.cell? ⟨w.heap.size, 6, none⟩ = some (.int .i64 m.t.arg) /\ w'.cell? ⟨w.heap.size, 7, none⟩ = some (.string m.v.1) /\ w'.cell? ⟨w.heap.size, 8, none⟩ = some (.int .i64 m.v.2) /\ w'.cell? ⟨w.heap.size, 9, none⟩ = some (.bool m.black) /\ w'.cell? ⟨w.heap.size, 10, none⟩ = some (.bool m.idle) /\ w'.cell? ⟨w.heap.size, 11, none⟩ = some (.int .i64 m.count) /\ w'.cell? ⟨w.heap.size, 12, none⟩ = some (.int .i64 m.round) /\ w'.cell? ⟨w.heap.size, 13, none⟩ = some (.int .i64 m.sent) /\ w'.cell? ⟨w.heap.size, 14, none⟩ = some (.int .i64 m.came)))) := fun part3 U h3 hm3 hp3 hSU => by
  obtain ⟨h4, hm4⟩ := h3.later ((Below.refl _ _).alloc (Nat.le_refl _) (Obj.cells (msgCells { m with src := (i : Int), dst := (j : Int), no := (l.all.length : Int) + 1 }) 140))
  refine (put_x _ U.heap.size h4 hy (BoxAt.new U _ _)).mono ?_
  rintro e w' ⟨v, rfl, rfl, part', yv', h5, hm5, hk5⟩
  have hls3 : (s.links.set i (ls.set j (l.sent { m with src := (i : Int), dst := (j : Int) })))[i]? = some (ls.set j (l.sent { m with src := (i : Int), dst := (j : Int) })) := List.getElem?_set_self (List.getElem?_eq_some_iff.1 hls).1
  obtain ⟨qs9, hr9, -, -⟩ := h4.lat i x _ hx hls3
  have hg9 := hr9.2 g (by rw [hvf]; rfl)
  have hgw9 := h4.wrow.2 gw rfl
  obtain ⟨a0, a1, a2, a3, a4, a5, a6, a7, a8, a9, a10, a11, a12, a13, a14, a15, a16, a17⟩ := hSU
  have ltc : ∀ {a : Addr} {v : Value}, U.cell? a = some v -> a.block < U.heap.size := fun h => by
   obtain ⟨o, ho, -⟩ := not_walk_of_cell h
   exact (Array.getElem?_eq_some_iff.1 ho).1
  have hwU : w.heap.size < U.heap.size := ltc a3
  have hgU : g < U.heap.size := ltc a2
  have hgwU : gw < U.heap.size := ltc a1
  have pB := h4.pB
  have n1 : ¬ (gw = B \/ ext U part3 0 gw = 2) := fun h => by
   rcases h with h | h
   ·rw [h, pB] at hgw9; omega
   ·omega
  have n2 : ¬ (g = B \/ ext U part3 0 g = 2) := fun h => by
   rcases h with h | h
   ·rw [h, pB] at hg9; omega
   ·omega
  have n3 : ¬ (w.heap.size = B \/ ext U part3 0 w.heap.size = 2) := fun h => by
   have h0 := (ext_old (part := part3) (n := 0) hwU).trans hp3
   rcases h with h | h
   ·rw [<- h] at pB; omega
   ·omega
  have up : ∀ {k : Nat}, k < U.heap.size -> k < (U.alloc (Obj.cells (msgCells { m with src := (i : Int), dst := (j : Int), no := (l.all.length : Int) + 1 }) 140)).heap.size := fun h => by simp; omega
  exact ⟨_, rfl, rfl, ⟨part', yv', by rw [HP.out]; exact h5, (hm3.trans hm4).trans hm5⟩, h5.box.cell (o := 3) rfl, (hk5.cell (p := ⟨gw, i * 7 + 2, none⟩) (up hgwU) n1).trans (cell_alloc _ a1), (hk5.cell (p := ⟨g, j, none⟩) (up hgU) n2).trans (cell_alloc _ a2), (hk5.cell (p := ⟨w.heap.size, 0, none⟩) (up hwU) n3).trans (cell_alloc _ a3), (hk5.cell (p := ⟨w.heap.size, 1, none⟩) (up hwU) n3).trans (cell_alloc _ a4), (hk5.cell (p := ⟨w.heap.size, 2, none⟩) (up hwU) n3).trans (cell_alloc _ a5), (hk5.cell (p := ⟨w.heap.size, 3, none⟩) (up hwU) n3).trans (cell_alloc _ a6), (hk5.cell (p := ⟨w.heap.size, 4, none⟩) (up hwU) n3).trans (cell_alloc _ a7), (hk5.cell (p := ⟨w.heap.size, 5, none⟩) (up hwU) n3).trans (cell_alloc _ a8), (hk5.cell (p := ⟨w.heap.size, 6, none⟩) (up hwU) n3).trans (cell_alloc _ a9), (hk5.cell (p := ⟨w.heap.size, 7, none⟩) (up hwU) n3).trans (cell_alloc _ a10), (hk5.cell (p := ⟨w.heap.size, 8, none⟩) (up hwU) n3).trans (cell_alloc _ a11), (hk5.cell (p := ⟨w.heap.size, 9, none⟩) (up hwU) n3).trans (cell_alloc _ a12), (hk5.cell (p := ⟨w.heap.size, 10, none⟩) (up hwU) n3).trans (cell_alloc _ a13), (hk5.cell (p := ⟨w.heap.size, 11, none⟩) (up hwU) n3).trans (cell_alloc _ a14), (hk5.cell (p := ⟨w.heap.size, 12, none⟩) (up hwU) n3).trans (cell_alloc _ a15), (hk5.cell (p := ⟨w.heap.size, 13, none⟩) (up hwU) n3).trans (cell_alloc _ a16), (hk5.cell (p := ⟨w.heap.size, 14, none⟩) (up hwU) n3).trans (cell_alloc _ a17)⟩
 obtain ⟨m9, hm9⟩ : ∃ m9 : MsgS, { m with src := (i : Int), dst := (j : Int), no := (l.all.length : Int) + 1 } = m9 := ⟨_, rfl⟩
 rw [hm9] at HSE HPU
 have HS1 : Hid (Y.drew.cell? ⟨B, 3, none⟩ = some (.slice (some ⟨gw, 0, none⟩) xs.length wc) /\ Y.drew.cell? ⟨gw, i * 7 + 2, none⟩ = some (.slice (some ⟨g, 0, none⟩) qs.length gc) /\ Y.drew.cell? ⟨g, j, none⟩ = some (.pointer (some ⟨q, 0, none⟩)) /\ Y.drew.cell? ⟨w.heap.size, 0, none⟩ = some (.int .i64 (i : Int)) /\ Y.drew.cell? ⟨w.heap.size, 1, none⟩ = some (.int .i64 (j : Int)) /\ Y.drew.cell? ⟨w.heap.size, 2, none⟩ = some (.int .i64 m.no) /\ Y.drew.cell? ⟨w.heap.size, 3, none⟩ = some (.int .i64 m.kind) /\ Y.drew.cell? ⟨w.heap.size, 4, none⟩ = some (.string m.t.id) /\ Y.drew.cell? ⟨w.heap.size, 5, none⟩ = some (.int .i64 m.t.kind) /\ Y.drew.cell? ⟨w.heap.size, 6, none⟩ = some (.int .i64 m.t.arg) /\ Y.drew.cell? ⟨w.heap.size, 7, none⟩ = some (.string m.v.1) /\ Y.drew.cell? ⟨w.heap.size, 8, none⟩ = some (.int .i64 m.v.2) /\ Y.drew.cell? ⟨w.heap.size, 9, none⟩ = some (.bool m.black) /\ Y.drew.cell? ⟨w.heap.size, 10, none⟩ = some (.bool m.idle) /\ Y.drew.cell? ⟨w.heap.size, 11, none⟩ = some (.int .i64 m.count) /\ Y.drew.cell? ⟨w.heap.size, 12, none⟩ = some (.int .i64 m.round) /\ Y.drew.cell? ⟨w.heap.size, 13, none⟩ = some (.int .i64 m.sent) /\ Y.drew.cell? ⟨w.heap.size, 14, none⟩ = some (.int .i64 m.came)) := HS0.out Y (Kept.refl (fun _ => False) _) (fun g hg => hg.elim)
 have HAL : Hid (∀ (U : World) (o : Obj), (U.cell? ⟨B, 3, none⟩ = some (.slice (some ⟨gw, 0, none⟩) xs.length wc) /\ U.cell? ⟨gw, i * 7 + 2, none⟩ = some (.slice (some ⟨g, 0, none⟩) qs.length gc) /\ U.cell? ⟨g, j, none⟩ = some (.pointer (some ⟨q, 0, none⟩)) /\ U.cell? ⟨w.heap.size, 0, none⟩ = some (.int .i64 (i : Int)) /\ U.cell? ⟨w.heap.size, 1, none⟩ = some (.int .i64 (j : Int)) /\ U.cell? ⟨w.heap.size, 2, none⟩ = some (.int .i64 m.no) /\ U.cell? ⟨w.heap.size, 3, none⟩ = some (.int .i64 m.kind) /\ U.cell? ⟨w.heap.size, 4, none⟩ = some (.string m.t.id) /\ U.cell? ⟨w.heap.size, 5, none⟩ = some (.int .i64 m.t.kind) /\ U.cell? ⟨w.heap.size, 6, none⟩ = some (.int .i64 m.t.arg) /\ U.cell? ⟨w.heap.size, 7, none⟩ = some (.string m.v.1) /\ U.cell? ⟨w.heap.size, 8, none⟩ = some (.int .i64 m.v.2) /\ U.cell? ⟨w.heap.size, 9, none⟩ = some (.bool m.black) /\ U.cell? ⟨w.heap.size, 10, none⟩ = some (.bool m.idle) /\ U.cell? ⟨w.heap.size, 11, none⟩ = some (.int .i64 m.count) /\ U.cell? ⟨w.heap.size, 12, none⟩ = some (.int .i64 m.round) /\ U.cell? ⟨w.heap.size, 13, none⟩ = some (.int .i64 m.sent) /\ U.cell? ⟨w.heap.size, 14, none⟩ = some (.int .i64 m.came)) -> (U.alloc o).cell? ⟨B, 3, none⟩ = some (.slice (some ⟨gw, 0, none⟩) xs.length wc) /\ (U.alloc o).cell? ⟨gw, i * 7 + 2, none⟩ = some (.slice (some ⟨g, 0, none⟩) qs.length gc) /\ (U.alloc o).cell? ⟨g, j, none⟩ = some (.pointer (some ⟨q, 0, none⟩)) /\ (U.alloc o).cell? ⟨w.heap.size, 0, none⟩ = some (.int .i64 (i : Int)) /\ (U.alloc o).cell? ⟨w.heap.size, 1, none⟩ = some (.int .i64 (j : Int)) /\ (U.alloc o).cell? ⟨w.heap.size, 2, none⟩ = some (.int .i64 m.no) /\ (U.alloc o).cell? ⟨w.heap.size, 3, none⟩ = some (.int .i64 m.kind) /\ (U.alloc o).cell? ⟨w.heap.size, 4, none⟩ = some (.string m.t.id) /\ (U.alloc o).cell? ⟨w.heap.size, 5, none⟩ = some (.int .i64 m.t.kind) /\ (U.alloc o).cell? ⟨w.heap.size, 6, none⟩ = some (.int .i64 m.t.arg) /\ (U.alloc o).cell? ⟨w.heap.size, 7, none⟩ = some (.string m.v.1) /\ (U.alloc o).cell? ⟨w.heap.size, 8, none⟩ = some (.int .i64 m.v.2) /\ (U.alloc o).cell? ⟨w.heap.size, 9, none⟩ = some (.bool m.black) /\ (U.alloc o).cell? ⟨w.heap.size, 10, none⟩ = some (.bool m.idle) /\ (U.alloc o).cell? ⟨w.heap.size, 11, none⟩ = some (.int .i64 m.count) /\ (U.alloc o).cell? ⟨w.heap.size, 12, none⟩ = some (.int .i64 m.round) /\ (U.alloc o).cell? ⟨w.heap.size, 13, none⟩ = some (.int .i64 m.sent) /\ (U.alloc o).cell? ⟨w.heap.size, 14, none⟩ = some (.int .i64 m.came)) := fun U o h => by
  obtain ⟨a0, a1, a2, a3, a4, a5, a6, a7, a8, a9, a10, a11, a12, a13, a14, a15, a16, a17⟩ := h
  exact ⟨cell_alloc o a0, cell_alloc o a1, cell_alloc o a2, cell_alloc o a3, cell_alloc o a4, cell_alloc o a5, cell_alloc o a6, cell_alloc o a7, cell_alloc o a8, cell_alloc o a9, cell_alloc o a10, cell_alloc o a11, cell_alloc o a12, cell_alloc o a13, cell_alloc o a14, cell_alloc o a15, cell_alloc o a16, cell_alloc o a17⟩
 clear h h2 hm2 hqr hql hqe hq hout hvf bY bZ gZ gY hm HP hm9
 go_enter Tryz.func138, Tryz.ntmps138
 go_wp2_with fail
 go_loopw [12] (fun iv wr => (iv = .int .i64 0 /\ w = wr) \/ (iv = .int .i64 1 /\ ∃ part' yv', XAtO part' wr B (postS s i j { m with src := (i : Int), dst := (j : Int) }) kv (.slice (some ⟨gw, 0, none⟩) xs.length wc) yv' M xs /\ XMoved part part' w wr)) (fun iv _ => 1 - (intOf iv).toNat)
 case atStart => exact .inl ⟨rfl, rfl⟩
 case round =>
  rename World => wr
  rcases hrel with ⟨rfl, rfl⟩ | ⟨rfl, h1⟩
  ·go_upto_region 4 with fail
   clear hZ hY z0 z1 f0 f1 c0 c1 c2 c3 c4 c5 c6 c7 c8 c9 c10 c11 c12 c13 c14
   go_region_held3 (fun U => U.cell? ⟨B, 3, none⟩ = some (.slice (some ⟨gw, 0, none⟩) xs.length wc) /\ U.cell? ⟨gw, i * 7 + 2, none⟩ = some (.slice (some ⟨g, 0, none⟩) qs.length gc) /\ U.cell? ⟨g, j, none⟩ = some (.pointer (some ⟨q, 0, none⟩)) /\ U.cell? ⟨w.heap.size, 0, none⟩ = some (.int .i64 (i : Int)) /\ U.cell? ⟨w.heap.size, 1, none⟩ = some (.int .i64 (j : Int)) /\ U.cell? ⟨w.heap.size, 2, none⟩ = some (.int .i64 m.no) /\ U.cell? ⟨w.heap.size, 3, none⟩ = some (.int .i64 m.kind) /\ U.cell? ⟨w.heap.size, 4, none⟩ = some (.string m.t.id) /\ U.cell? ⟨w.heap.size, 5, none⟩ = some (.int .i64 m.t.kind) /\ U.cell? ⟨w.heap.size, 6, none⟩ = some (.int .i64 m.t.arg) /\ U.cell? ⟨w.heap.size, 7, none⟩ = some (.string m.v.1) /\ U.cell? ⟨w.heap.size, 8, none⟩ = some (.int .i64 m.v.2) /\ U.cell? ⟨w.heap.size, 9, none⟩ = some (.bool m.black) /\ U.cell? ⟨w.heap.size, 10, none⟩ = some (.bool m.idle) /\ U.cell? ⟨w.heap.size, 11, none⟩ = some (.int .i64 m.count) /\ U.cell? ⟨w.heap.size, 12, none⟩ = some (.int .i64 m.round) /\ U.cell? ⟨w.heap.size, 13, none⟩ = some (.int .i64 m.sent) /\ U.cell? ⟨w.heap.size, 14, none⟩ = some (.int .i64 m.came))
    (first | assumption | (exact HAL.out _ _ (by assumption)) | (exact HS1.out) | trivial)
    (first
    | (go_at_call 159; refine (HSE.out _ ((Below.refl _ _).drew)).mono ?_; rintro e w3 ⟨v3, rfl, rfl, part3, h3, hm3, hp3, hs3⟩; have HX3 := hid_of h3; have HM3 := hid_of hm3; have HP3 := hid_of hp3; have HS3 := hid_of hs3; clear h3 hm3 hp3)
    | (go_at_call 144; refine (HPU.out part3 w3 HX3.out HM3.out HP3.out HS3.out).mono ?_; rintro e w5 ⟨v5, rfl, rfl, hres, hs5⟩; have HRES := hid_of hres; clear hres))
   all_goals
    go_wp2_with fail
    go_roundw
    case rel => exact .inr ⟨by go_num, HRES.out⟩
    case measure => simp [intOf]
  ·have H1 := hid_of h1
   clear h1
   go_wp2_with fail
   go_end0
   exact ⟨_, rfl, rfl, H1.out⟩
end Go.Proofs.YteahdfeialekbaaGreatDoor
