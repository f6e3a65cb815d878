/-
  What is read of a program that is handed in: its kinds and their kids lie in memory, within the reach.
-/
import Derived.Test.YteahdfeialekbaaGreatDoorProg
import Derived.Test.YteahdfeialekbaaGreatDoorLeaves
import Derived.Deep.Slices
import Derived.Deep.SlicePairs
import Derived.Deep.Strs
import Derived.Lib.SmallJoins
import Derived.SizedLaws
import Derived.Test.YteahdfeialekbaaGreatDoorKeptP
import Derived.Test.YteahdfeialekbaaGreatDoorRefTasks
namespace Go.Proofs.YteahdfeialekbaaGreatDoor
open Go Go.RowKit Go.Deep Go.ChangeShapes Go.WideShapes
theorem cellsI : Tryz.prog.cellsOf 3 = 1 := by kernel_rfl
theorem cellsKid : Tryz.prog.cellsOf 108 = 2 := by kernel_rfl
theorem cellsKind : Tryz.prog.cellsOf 111 = 3 := by kernel_rfl
theorem cellsKids : Tryz.prog.cellsOf 109 = 1 := by kernel_rfl
theorem cellsKinds : Tryz.prog.cellsOf 40 = 1 := by kernel_rfl
theorem cellsProgram : Tryz.prog.cellsOf 42 = 3 := by kernel_rfl
theorem bytesKid : Tryz.prog.bytesOf 108 = 16 := by kernel_rfl
theorem bytesKind : Tryz.prog.bytesOf 111 = 40 := by kernel_rfl
theorem addr_plain {W : World} {a : Addr} {i : Nat} {u v : Value} (h0 : W.cell? (a.add 0) = some u) (h : W.cell? (a.add i) = some v) : ∃ b o, a = ⟨b, o, none⟩ /\ b < W.heap.size /\ W.cell? ⟨b, o + i, none⟩ = some v := by
 obtain ⟨b, o, spot⟩ := a
 have h1 : spot = none := by simpa [Addr.add] using World.cell?_spot h0
 subst h1
 have h2 := World.block_lt_of_cell? W _ h0
 rw [Addr.add_lit] at h h2
 exact ⟨b, o, rfl, h2, h⟩
theorem list3 {l : List Value} (h : l.length = 3) : ∃ a b c, l = [a, b, c] := by
 match l, h with
 | [a, b, c], _ => exact ⟨a, b, c, rfl⟩
section
variable {H : Type} {enc : TypeId × Value -> H} {W : World} {spare : Nat -> Bool} {held : Bool}
theorem kids_opened {fuel : Nat} {v : Value} {x : DataW H × List MemPlace} (h : DataW.trod enc Tryz.prog W 0 spare held fuel 109 [v] = some x) :
  ∃ kids : List KidS, KidsAt (fun _ => True) W v kids /\ (kids.length = 0 \/ ∃ el sp, x.1 = .slice el sp /\ el.length = kids.length) := by
 rcases open_slice_pairs Tryz.underlying109 Tryz.underlying108 cellsKid rfl rfl cellsI cellsI h with ⟨h0, -⟩ | ⟨a, len, cap, m, n, V0, V1, D0, D1, P0, P1, h0, -, hlc, hcm, hm, rfl, hx⟩
 ·simp only [List.cons.injEq, and_true] at h0
  subst h0
  exact ⟨[], ⟨none, 0, rfl, fun j c hj => by simp at hj⟩, .inl rfl⟩
 ·simp only [List.cons.injEq, and_true] at h0
  subst h0
  have hlm : len <= m := by rw [hm]; split <;> omega
  obtain ⟨k0, hk0⟩ := choose_lt (α := Int) (n := len) (p := fun i z => V0 i = .int .i64 z) (fun i hi => by
   obtain ⟨_, _, h1, _⟩ := hx i (by omega)
   obtain ⟨z, hz, _⟩ := DataW.trod_int Tryz.underlying3 h1
   exact ⟨z, by simpa using hz⟩)
  obtain ⟨k1, hk1⟩ := choose_lt (α := Int) (n := len) (p := fun i z => V1 i = .int .i64 z) (fun i hi => by
   obtain ⟨_, _, _, h1⟩ := hx i (by omega)
   obtain ⟨z, hz, _⟩ := DataW.trod_int Tryz.underlying3 h1
   exact ⟨z, by simpa using hz⟩)
  refine ⟨(List.range len).map fun i => ⟨k0 i, k1 i⟩, ⟨some a, cap, by simp, fun j c hj => ?_⟩, .inr ⟨_, _, rfl, by simp⟩⟩
  have hjl : j < len := by simpa using (List.getElem?_eq_some_iff.1 hj).1
  simp [hjl] at hj
  subst hj
  obtain ⟨c0, c1, _, _⟩ := hx j (by omega)
  rw [hk0 j hjl] at c0
  rw [hk1 j hjl] at c1
  have a0 := (hx 0 (by omega)).1
  rw [Nat.zero_mul] at a0
  obtain ⟨b, o, rfl, hb, e0⟩ := addr_plain a0 c0
  obtain ⟨b', o', e, _, e1⟩ := addr_plain a0 c1
  cases e
  exact ⟨b, o, rfl, trivial, hb, e0, by rw [Nat.add_assoc]; exact e1⟩
theorem weights_all {e : TypeId} {l : List (DataW H)} {d : DataW H} (hd : d ∈ l) : ∀ n ∈ d.weights Tryz.prog e, n ∈ DataW.weightsAll Tryz.prog e l := by
 induction l with
 | nil => cases hd
 | cons x r ih =>
  intro n hn
  unfold DataW.weightsAll
  rcases List.mem_cons.1 hd with rfl | hd
  ·exact List.mem_append_left _ hn
  ·exact List.mem_append_right _ (ih hd n hn)
theorem kinds_opened {fuel : Nat} {v : Value} {x : DataW H × List MemPlace} (h : DataW.trod enc Tryz.prog W 0 spare held fuel 40 [v] = some x) (hw : ∀ n ∈ x.1.weights Tryz.prog 40, n <= reachBytes) :
  ∃ ks : List KindS, KindsAt (fun _ => True) W v ks /\ ks.length * 40 <= reachBytes /\ ∀ k ∈ ks, k.kids.length * 16 <= reachBytes := by
 rcases open_slice Tryz.underlying40 h with ⟨h0, -⟩ | ⟨a, len, cap, m, n, D, Pl, h0, -, hlc, hcm, hm, rfl, hx⟩
 ·simp only [List.cons.injEq, and_true] at h0
  subst h0
  exact ⟨[], ⟨none, 0, rfl, fun j c hj => by simp at hj⟩, by simp, fun k hk => by cases hk⟩
 ·simp only [List.cons.injEq, and_true] at h0
  subst h0
  have hlm : len <= m := by rw [hm]; split <;> omega
  have hlen : len * 40 <= reachBytes := by
   have := hw ((((List.range len).map D).length + ((List.range (m - len)).map fun j => D (len + j)).length) * Tryz.prog.bytesOf 111) (by simp [DataW.weights, Tryz.underlying40])
   rw [bytesKind] at this
   simp only [List.length_map, List.length_range] at this
   have h2 : len * 40 <= (len + (m - len)) * 40 := Nat.mul_le_mul_right _ (by omega)
   exact Nat.le_trans h2 this
  have each : ∀ i, i < len -> ∃ k : KindS, ∃ kv, W.cell? (a.add (i * 3)) = some (.int .i64 k.A) /\ W.cell? (a.add (i * 3 + 1)) = some (.int .i64 k.B) /\ W.cell? (a.add (i * 3 + 2)) = some kv /\ KidsAt (fun _ => True) W kv k.kids /\ k.kids.length * 16 <= reachBytes := by
   intro i hi
   obtain ⟨cs', h1, h2⟩ := hx i (by omega)
   rw [cellsKind] at h1
   obtain ⟨_, hl, hcell⟩ := World.cells?_some h1
   obtain ⟨y0, y1, y2, n', hD, _, g0, g1, g2⟩ := trod_struct3 Tryz.underlying111 h2
   obtain ⟨v0, v1, v2, rfl⟩ := list3 hl
   have e0 := hcell 0 (by omega)
   have e1 := hcell 1 (by omega)
   have e2 := hcell 2 (by omega)
   rw [add_add] at e0 e1 e2
   simp only [cellsI, cellsKids, List.drop_zero, List.drop_succ_cons, List.take_succ_cons, List.take_zero] at g0 g1 g2
   obtain ⟨z0, hz0, _⟩ := DataW.trod_int Tryz.underlying3 g0
   obtain ⟨z1, hz1, _⟩ := DataW.trod_int Tryz.underlying3 g1
   obtain ⟨kids, hk, hlk⟩ := kids_opened g2
   simp only [List.cons.injEq, and_true] at hz0 hz1
   subst hz0 hz1
   refine ⟨⟨z0, z1, kids⟩, v2, by simpa using e0, by simpa using e1, by simpa using e2, hk, ?_⟩
   rcases hlk with h0 | ⟨el, sp, hy, hel⟩
   ·rw [h0]; simp
   ·have hDi : D i ∈ (List.range len).map D := List.mem_map.2 ⟨i, List.mem_range.2 hi, rfl⟩
    have := hw ((el.length + sp.length) * Tryz.prog.bytesOf 108) (by
     simp only [DataW.weights, Tryz.underlying40]
     refine List.mem_cons_of_mem _ (List.mem_append_left _ (weights_all hDi _ ?_))
     simp only [Prod.mk.injEq] at hD
     rw [hD.1]
     simp [DataW.weights, DataW.weightsEach, Tryz.underlying111, hy, Tryz.underlying109])
    rw [bytesKid, hel] at this
    have h2 : kids.length * 16 <= (kids.length + sp.length) * 16 := Nat.mul_le_mul_right _ (by omega)
    exact Nat.le_trans h2 this
  have hin : Inhabited KindS := ⟨⟨0, 0, []⟩⟩
  obtain ⟨K, hK⟩ := choose_lt each
  refine ⟨(List.range len).map K, ⟨some a, cap, by simp, fun j c hj => ?_⟩, by simpa using hlen, fun k hk => ?_⟩
  ·have hjl : j < len := by simpa using (List.getElem?_eq_some_iff.1 hj).1
   simp [hjl] at hj
   subst hj
   obtain ⟨kv, c0, c1, c2, hk, _⟩ := hK j hjl
   obtain ⟨_, a0, _⟩ := hK 0 (by omega)
   rw [Nat.zero_mul] at a0
   obtain ⟨b, o, rfl, hb, e0⟩ := addr_plain a0 c0
   obtain ⟨b1, o1, e, _, e1⟩ := addr_plain a0 c1
   cases e
   obtain ⟨b2, o2, e, _, e2⟩ := addr_plain a0 c2
   cases e
   exact ⟨b, o, kv, rfl, trivial, hb, e0, by rw [Nat.add_assoc]; exact e1, by rw [Nat.add_assoc]; exact e2, hk⟩
  ·obtain ⟨i, hi, rfl⟩ := List.mem_map.1 hk
   obtain ⟨_, _, _, _, _, h⟩ := hK i (List.mem_range.1 hi)
   exact h
end
end Go.Proofs.YteahdfeialekbaaGreatDoor
namespace Go.Proofs.YteahdfeialekbaaGreatDoor
open Go Go.RowKit
theorem KidsAt.mono {ok ok' : Nat -> Prop} {W : World} {v : Value} {l : List KidS} (h : KidsAt ok W v l) (hx : ∀ b, ok b -> ok' b) : KidsAt ok' W v l := by
 obtain ⟨a, cap, rfl, hc⟩ := h
 refine ⟨a, cap, rfl, fun j c hj => ?_⟩
 obtain ⟨b, o, ha, hok, hb⟩ := hc j c hj
 exact ⟨b, o, ha, hx b hok, hb⟩
theorem KindsAt.mono {ok ok' : Nat -> Prop} {W : World} {v : Value} {l : List KindS} (h : KindsAt ok W v l) (hx : ∀ b, ok b -> ok' b) : KindsAt ok' W v l := by
 obtain ⟨a, cap, rfl, hc⟩ := h
 refine ⟨a, cap, rfl, fun j c hj => ?_⟩
 obtain ⟨b, o, kv, ha, hok, hb, c0, c1, c2, hk⟩ := hc j c hj
 exact ⟨b, o, kv, ha, hx b hok, hb, c0, c1, c2, hk.mono hx⟩
theorem LentAt.lt {W : World} {BL : Nat} {K : Nat -> Nat} {ks : List KindS} (h : LentAt W BL K ks) (j : Nat) (hj : j < ks.length) : K j < W.heap.size := by
 obtain ⟨cs, h1, h2, h3, h4⟩ := h
 exact (h3.1 j _ hj (List.getElem?_eq_getElem hj)).2.2.2
theorem row_later {W W' : World} {base e size n : Nat} {v : Value} {xs : List Value} (h : W.ownsRow base e size v n xs) (k : Below W.heap.size W W') : W'.ownsRow base e size v n xs :=
 row_below h k (fun g e => (h.lt g e).2)
theorem heldV : Tryz.prog.stoodInHeld 84 = false := by kernel_rfl
theorem guardV : Tryz.prog.eqGuardType Tryz.prog.depth 84 = false := by kernel_rfl
set_option maxHeartbeats 4000000 in
set_option maxRecDepth 100000 in
theorem likeV_calls (va vb : Value) (l : List (ByteArray × Int)) (w : World) (ha : ListAt 2 valEnc w va l) (hb : ListAt 2 valEnc w vb l) (hl : l.length <= 9223372036854775806) :
  Calls Tryz.prog 46 #[va, vb] w fun e w' => e = .returned (.bool true) /\ Below w.heap.size w w' := by
 obtain ⟨a, cap, rfl, hca⟩ := ha
 obtain ⟨b, cap', rfl, hcb⟩ := hb
 have hs := heldV
 have hg := guardV
 go_enter Tryz.func46, Tryz.ntmps46
 go_wp2_with fail
 go_loopw [5] (fun i wr => ∃ k : Nat, k <= l.length /\ i = .int .i64 k /\ Below w.heap.size w wr) (fun i _ => l.length - (intOf i).toNat)
 case atStart => exact ⟨0, Nat.zero_le _, rfl, Below.refl _ _⟩
 case round =>
  obtain ⟨k, hk, rfl, hbw⟩ := hrel
  by_cases hlt : k < l.length
  ·obtain ⟨x, hx⟩ : ∃ x, l[k]? = some x := ⟨_, List.getElem?_eq_getElem hlt⟩
   obtain ⟨g, o, rfl, hgl, hc⟩ := hca k x hx
   obtain ⟨g', o', rfl, hgl', hd⟩ := hcb k x hx
   have c0 := (hbw.cell (p := ⟨g, o + k * 2 + 0, none⟩) hgl).trans (hc 0 _ rfl)
   have d0 := (hbw.cell (p := ⟨g', o' + k * 2 + 0, none⟩) hgl').trans (hd 0 _ rfl)
   have c1 := (hbw.cell (p := ⟨g, o + k * 2 + 1, none⟩) hgl).trans (hc 1 _ rfl)
   have d1 := (hbw.cell (p := ⟨g', o' + k * 2 + 1, none⟩) hgl').trans (hd 1 _ rfl)
   rw [Nat.add_zero] at c0 d0
   have i1 : (0 : Int) <= (k : Int) := by omega
   have i2 : (k : Int) < (l.length : Int) := by omega
   clear hca hcb hc hd
   go_wp2_with fail
   go_quiet (fail)
   go_wp2_with fail
   go_roundw
   case rel => exact ⟨k + 1, by omega, by go_num, below_drewN hbw _⟩
   case measure => simp [intOf]; omega
  ·go_wp2_with fail
   go_ret
   exact ⟨rfl, hbw⟩
def nextB (l : LinkS) : Bool := l.kept.any (· == l.came + 1)
def LinkS.on (l : LinkS) (n : Nat) : LinkS := { l with came := l.came + n }
structure Comes (l : LinkS) (n : Nat) : Prop where
 each : ∀ k, k < n -> nextB (l.on k) = true
 last : nextB (l.on n) = false
theorem on_on (l : LinkS) (a b : Nat) : (l.on a).on b = l.on (a + b) := by
 unfold LinkS.on
 congr 1
 dsimp only
 omega
theorem on_zero (l : LinkS) : l.on 0 = l := by
 unfold LinkS.on
 cases l
 simp
end Go.Proofs.YteahdfeialekbaaGreatDoor
