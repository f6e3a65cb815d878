/-
  glean.New makes a run whose first task is with worker 0, of new memory alone.
-/
import Derived.Test.YtgbneeohaboncaaGreatDoorXNew
import Derived.Deep.RegionHeld3
namespace Go.Proofs.YtgbneeohaboncaaGreatDoor
open Go Go.RowKit Go.Maps Go.WideMaps

theorem below_alloc {A W : World} (h : Below A.heap.size A W) (o : Obj) : Below A.heap.size A (W.alloc o) := h.alloc h.size o
/-- A run put together of its parts. -/
theorem xok_new {n : Nat} {room mode kind arg : Int} {ks : List KindS} {W : World} {base B M lo hi lo2 hi2 g : Nat} {kv : Value} {part : Nat → Nat} {xs : List XW} (hn : 0 < n) (hbox : BoxAt W B 127 #[kv, .int .i64 kind, .int .i64 arg, .slice (some ⟨g, 0, none⟩) n n, .slice none 0 0, .map (some M), .bool false]) (hK : KindsAt (fun b => lo ≤ b ∧ b < hi) W kv ks)
    {D : DataW Unit} (hM : MapIs W M D) (hD : Maps.size D = 0) (hpt : ∀ b, part b ≠ 0 → lo2 ≤ b ∧ b < hi2 ∧ (part b = 7 ∨ 10 ≤ part b)) (hrow : RowIn (fun b => part b = 7) 135 3 xwEnc W (.slice (some ⟨g, 0, none⟩) n n) xs) (hxl : xs.length = n) (htl : ∀ i x, xs[i]? = some x → TaskListAt (fun b => part b = 10 + i) W x.1 room (if i = 0 then [⟨⟨#[]⟩, kind, arg⟩] else []))
    (h1 : base ≤ lo) (h2 : hi ≤ lo2) (h3 : M < lo ∨ (hi ≤ M ∧ M < lo2) ∨ hi2 ≤ M) (h4 : base ≤ M) (h5 : hi2 ≤ B) (h6 : M ≠ B) (h7 : lo ≤ lo2) (h8 : lo2 ≤ hi2) : XOK (fun b => base ≤ b) W B (newS n room mode ks kind arg) := by
  refine ⟨fun b => if b = B then 1 else if b = M then 3 else if lo ≤ b ∧ b < hi then 6 else part b, fun b hb => ?_, ⟨kv, _, M, D, xs, hbox, if_pos rfl, hK.mono' (fun b hb => ?_), ⟨⟨hrow.1, fun g' e => ?_⟩, by rw [hxl]; simp [newS]; omega, fun i x y hx hy => ?_⟩, hM, (if_neg h6).trans (if_pos rfl), by omega⟩⟩
  · dsimp only at hb
    by_cases e1 : b = B
    · omega
    · rw [if_neg e1] at hb
      by_cases e2 : b = M
      · omega
      · rw [if_neg e2] at hb
        by_cases e3 : lo ≤ b ∧ b < hi
        · omega
        · rw [if_neg e3] at hb
          have := hpt b hb
          omega
  · exact (if_neg (by omega)).trans ((if_neg (by omega)).trans (if_pos hb))
  · have := hrow.2 g' e
    have h := hpt g' (by omega)
    exact (if_neg (by omega)).trans ((if_neg (by omega)).trans ((if_neg (by omega)).trans this))
  · have hk := htl i x hx
    have hy' : y.tasks = if i = 0 then [⟨⟨#[]⟩, kind, arg⟩] else [] := by
      cases i with
      | zero => simp [newS] at hy; subst hy; rfl
      | succ i =>
        have : (List.replicate ((n : Int).toNat - 1) worker0)[i]? = some y := by simpa [newS] using hy
        rw [replicate_get this]
        rfl
    rw [hy']
    refine hk.kept (Kept.refl (fun _ => False) W) (fun g' _ e => ⟨fun h => h, ?_⟩)
    have h := hpt g' (by omega)
    exact (if_neg (by omega)).trans ((if_neg (by omega)).trans ((if_neg (by omega)).trans e))

theorem xfin {n : Nat} {room mode kind arg : Int} {ks : List KindS} {W W3 W5 : World} {base B M lo lo2 g : Nat} {kv : Value} {part : Nat → Nat} {xs : List XW} {D : DataW Unit} (hn : 0 < n) (hbox : BoxAt W B 127 #[kv, .int .i64 kind, .int .i64 arg, .slice (some ⟨g, 0, none⟩) n n, .slice none 0 0, .map (some M), .bool false]) (hK : KindsAt (fun b => lo ≤ b ∧ b < W3.heap.size) W3 kv ks) (h3 : Below W3.heap.size W3 W)
    (hM : MapIs W M D) (hD : Maps.size D = 0) (hpt : ∀ b, part b ≠ 0 → lo2 ≤ b ∧ b < W5.heap.size ∧ (part b = 7 ∨ 10 ≤ part b)) (hrow : RowIn (fun b => part b = 7) 135 3 xwEnc W5 (.slice (some ⟨g, 0, none⟩) n n) xs) (hxl : xs.length = n) (htl : ∀ i x, xs[i]? = some x → TaskListAt (fun b => part b = 10 + i) W5 x.1 room (if i = 0 then [⟨⟨#[]⟩, kind, arg⟩] else [])) (h5 : Below W5.heap.size W5 W)
    (g1 : base ≤ lo) (g2 : W3.heap.size ≤ lo2) (g3 : M < lo ∨ (W3.heap.size ≤ M ∧ M < lo2) ∨ W5.heap.size ≤ M) (g4 : base ≤ M) (g5 : W5.heap.size ≤ B) (g6 : M ≠ B) (g7 : lo ≤ lo2) (g8 : lo2 ≤ W5.heap.size) : XOK (fun b => base ≤ b) W B (newS n room mode ks kind arg) := by
  have k5 : Kept (fun b => W5.heap.size ≤ b) W5 W := Kept.of_below h5 (fun _ _ h => h)
  exact xok_new hn hbox (hK.kept (Kept.of_below h3 (X := fun b => W3.heap.size ≤ b) (fun _ _ h => h)) (fun b h1 h2 => by omega)) hM hD hpt (hrow.kept k5 (fun g hg h => ⟨by omega, h⟩)) hxl (fun i x hx => (htl i x hx).kept k5 (fun g hg h => ⟨by omega, h⟩)) g1 g2 g3 g4 g5 g6 g7 g8
theorem boxAt_at (W : World) (t : TypeId) (cs : Array Value) (g : Nat) (h : W.heap.size = g) : BoxAt (W.alloc (.cells cs t)) g t cs := by subst h; exact BoxAt.new W t cs
theorem map_made (W : World) : ∃ D, MapIs (W.alloc (Obj.map #[] 0)) W.heap.size D ∧ Maps.size D = 0 := ⟨_, mapIs_of (World.ownsMap_made W Tryz.prog 9 (plainElem Tryz.prog 3)), rfl⟩

set_option maxHeartbeats 4000000 in
set_option maxRecDepth 100000 in
theorem x_new_good (a : Option Addr) (cap : Nat) (workers room mode kind arg : Int) (ks : List KindS) (w : World) (hk : KindsAt (fun _ => True) w (.slice a ks.length cap) ks) (hc : cfgB workers room mode = true) (hu : (unfoldS ks kind arg).1 = 0) :
    Calls Tryz.prog 25 #[.agg #[.int .i64 workers, .int .i64 room, .int .i64 mode], .agg #[.slice a ks.length cap, .int .i64 kind, .int .i64 arg]] w fun e w' => ∃ B, e = .returned (.tuple #[.pointer (some ⟨B, 0, none⟩), .int .i64 0]) ∧ XOK (fun b => w.heap.size ≤ b) w' B (newS workers room mode ks kind arg) ∧ Below w.heap.size w w' := by
  have hprog : progB ks kind arg = true := by
    by_cases h : progB ks kind arg = true
    · exact h
    · simp [unfoldS, h] at hu
  have hlen5 : ks.length ≤ 5 := by simp [progB, rangeB] at hprog; omega
  have HL2 : Hid (∀ k ∈ ks, k.kids.length ≤ 9223372036854775806) := fun k hk => by
    simp [progB] at hprog
    have := hprog.1.1.2 k hk
    simp [kindB] at this
    have := this.1.2
    omega
  obtain ⟨V, hV⟩ : ∃ V, (w.alloc (Obj.cells #[.int .i64 workers, .int .i64 room, .int .i64 mode] 39)).alloc (Obj.cells #[.slice a ks.length cap, .int .i64 kind, .int .i64 arg] 42) = V := ⟨_, rfl⟩
  have bC : BoxAt V w.heap.size 39 #[.int .i64 workers, .int .i64 room, .int .i64 mode] := by rw [← hV]; exact (BoxAt.new w _ _).alloc _
  have bP : BoxAt V (w.heap.size + 1) 42 #[.slice a ks.length cap, .int .i64 kind, .int .i64 arg] := by
    rw [← hV]; have := BoxAt.new (w.alloc (Obj.cells #[.int .i64 workers, .int .i64 room, .int .i64 mode] 39)) 42 #[.slice a ks.length cap, .int .i64 kind, .int .i64 arg]
    rw [World.size_alloc] at this; exact this
  have hbV : Below w.heap.size w V := by rw [← hV]; exact ((Below.refl _ _).alloc (Nat.le_refl _) _).alloc (by simp) _
  have sV : w.heap.size + 2 ≤ V.heap.size := by rw [← hV]; simp
  have h2 : 2 ≤ workers := by simp [cfgB] at hc; omega
  have h5 : workers ≤ 5 := by simp [cfgB] at hc; omega
  obtain ⟨n, rfl⟩ : ∃ n : Nat, workers = (n : Int) := ⟨workers.toNat, by omega⟩
  have c0 := bC.cell (o := 0) rfl
  have c1 := bC.cell (o := 1) rfl
  have c2 := bC.cell (o := 2) rfl
  have HBP := hid_of bP
  have HBC := hid_of bC
  have HKV : Hid (KindsAt (fun b => b < w.heap.size) V (.slice a ks.length cap) ks) := (hk.below.kept (Kept.of_below hbV (X := fun b => w.heap.size ≤ b) (fun _ _ h => h)) (fun b h1 h2 => by omega)).mono' (fun _ h => h.2)
  have HBV : Hid (Below w.heap.size w V) := hbV
  have HCF := hid_of (isConfig_calls n room mode V)
  rw [hc] at HCF
  have hmm := @run_makeMap Tryz.prog
  have HU0 : Hid ((unfoldS ks kind arg).1 = 0) := hu
  clear bC bP hbV hk hc hu
  go_enter Tryz.func25, Tryz.ntmps25
  go_upto_region 3 with (go_at_call 66; refine HCF.out.mono ?_; rintro e w1 ⟨rfl, hb1⟩)
  have hP1 := HBP.out.below hb1 HBP.out.lt
  have p0 := hP1.cell (o := 0) rfl
  have p1 := hP1.cell (o := 1) rfl
  have p2 := hP1.cell (o := 2) rfl
  have HU := hid_of (unfold_calls a cap kind arg ks w1 ((HKV.out.kept (Kept.of_below hb1 (X := fun b => V.heap.size ≤ b) (fun _ _ h => h)) (fun b h1 h2 => by omega)).mono' (fun _ _ => trivial)) (by omega) HL2.out)
  rw [HU0.out] at HU
  have HB1 := hid_of hb1
  have s1 := hb1.size
  clear hP1 c0 c1 c2 hV
  go_upto_region 6 with (go_at_call 24; refine HU.out.mono ?_; rintro e w2 ⟨v2, rfl, -, hb2⟩)
  have s2 := hb2.size
  have hbV2 : Below V.heap.size V w2 := HB1.out.trans (hb2.mono s1)
  have HP2 := hid_of (HBP.out.below hbV2 HBP.out.lt)
  have HC2 := hid_of (HBC.out.below hbV2 HBC.out.lt)
  have HK2 : Hid (KindsAt (fun b => b < w.heap.size) w2 (.slice a ks.length cap) ks) := HKV.out.kept (Kept.of_below hbV2 (X := fun b => V.heap.size ≤ b) (fun _ _ h => h)) (fun b h1 h2 => by omega)
  have HBw2 : Hid (Below w.heap.size w w2) := HBV.out.trans (hbV2.mono (by omega))
  have HCP : Hid (∀ U, Below w2.heap.size w2 U → Calls Tryz.prog 67 #[.agg #[.slice a ks.length cap, .int .i64 kind, .int .i64 arg]] U fun e w' => ∃ v, e = .returned v ∧ ∃ a' c', v = .agg #[.slice a' ks.length c', .int .i64 kind, .int .i64 arg] ∧ KindsAt (fun b => U.heap.size ≤ b ∧ b < w'.heap.size) w' (.slice a' ks.length c') ks ∧ Below U.heap.size U w' ∧ Below w2.heap.size w2 w') := fun U hU => by
    refine (copy_calls a cap kind arg ks U ((HK2.out.kept (Kept.of_below hU (X := fun b => w2.heap.size ≤ b) (fun _ _ h => h)) (fun b h1 h2 => by have := HBw2.out.size; omega)).mono' (fun _ _ => trivial)) hprog).mono ?_
    rintro e w' ⟨a', c', rfl, h1, h2⟩
    exact ⟨_, rfl, a', c', rfl, h1.below, h2, hU.trans (h2.mono hU.size)⟩
  have HFI : Hid (∀ U, Below w2.heap.size w2 U → Calls Tryz.prog 69 #[.agg #[.slice a ks.length cap, .int .i64 kind, .int .i64 arg]] U fun e w' => ∃ v, e = .returned v ∧ v = .agg #[.string ⟨#[]⟩, .int .i64 kind, .int .i64 arg] ∧ Below U.heap.size U w' ∧ Below w2.heap.size w2 w') := fun U hU => by
    refine (first_calls a ks.length cap kind arg U).mono ?_
    rintro e w' ⟨rfl, h1⟩
    exact ⟨_, rfl, rfl, h1, hU.trans (h1.mono hU.size)⟩
  have HNW : Hid (∀ U, Below w2.heap.size w2 U → Calls Tryz.prog 68 #[.agg #[.int .i64 n, .int .i64 room, .int .i64 mode], .agg #[.string ⟨#[]⟩, .int .i64 kind, .int .i64 arg]] U fun e w' => ∃ v, e = .returned v ∧ ∃ (part : Nat → Nat) (g : Nat) (xs : List XW), v = .slice (some ⟨g, 0, none⟩) n n ∧ (∀ b, part b ≠ 0 → U.heap.size ≤ b ∧ b < w'.heap.size ∧ (part b = 7 ∨ 10 ≤ part b)) ∧
      RowIn (fun b => part b = 7) 135 3 xwEnc w' (.slice (some ⟨g, 0, none⟩) n n) xs ∧ xs.length = n ∧ (∀ i x, xs[i]? = some x → TaskListAt (fun b => part b = 10 + i) w' x.1 room (if i = 0 then [⟨⟨#[]⟩, kind, arg⟩] else [])) ∧ Below U.heap.size U w' ∧ Below w2.heap.size w2 w') := fun U hU => by
    refine (newWorkers_calls n room mode ⟨⟨#[]⟩, kind, arg⟩ U (by omega) (by omega)).mono ?_
    rintro e w' ⟨part, g, xs, rfl, h1, h2, h3, h4, h5⟩
    exact ⟨_, rfl, part, g, xs, rfl, h1, h2, h3, h4, h5, hU.trans (h5.mono hU.size)⟩
  clear p0 p1 p2 hb1 hb2 hbV2
  have HST : Hid (∀ U, Below w2.heap.size w2 U → Below w2.heap.size w2 U ∧ U.cell? ⟨w.heap.size + 1, 0, none⟩ = some (.slice a ks.length cap) ∧ U.cell? ⟨w.heap.size + 1, 1, none⟩ = some (.int .i64 kind) ∧ U.cell? ⟨w.heap.size + 1, 2, none⟩ = some (.int .i64 arg) ∧ U.cell? ⟨w.heap.size, 0, none⟩ = some (.int .i64 n) ∧ U.cell? ⟨w.heap.size, 1, none⟩ = some (.int .i64 room) ∧ U.cell? ⟨w.heap.size, 2, none⟩ = some (.int .i64 mode)) := fun U hU => by
    have hP := HP2.out.below hU HP2.out.lt
    have hC := HC2.out.below hU HC2.out.lt
    exact ⟨hU, hP.cell (o := 0) rfl, hP.cell (o := 1) rfl, hP.cell (o := 2) rfl, hC.cell (o := 0) rfl, hC.cell (o := 1) rfl, hC.cell (o := 2) rfl⟩
  have p0 := HP2.out.cell (o := 0) rfl
  have p1 := HP2.out.cell (o := 1) rfl
  have p2 := HP2.out.cell (o := 2) rfl
  have c0 := HC2.out.cell (o := 0) rfl
  have c1 := HC2.out.cell (o := 1) rfl
  have c2 := HC2.out.cell (o := 2) rfl
  go_region_held3 (fun U => Below w2.heap.size w2 U ∧ U.cell? ⟨w.heap.size + 1, 0, none⟩ = some (.slice a ks.length cap) ∧ U.cell? ⟨w.heap.size + 1, 1, none⟩ = some (.int .i64 kind) ∧ U.cell? ⟨w.heap.size + 1, 2, none⟩ = some (.int .i64 arg) ∧ U.cell? ⟨w.heap.size, 0, none⟩ = some (.int .i64 n) ∧ U.cell? ⟨w.heap.size, 1, none⟩ = some (.int .i64 room) ∧ U.cell? ⟨w.heap.size, 2, none⟩ = some (.int .i64 mode))
    (first | assumption | (exact HST.out _ (by assumption)) | (exact HST.out _ (Below.refl _ _)) | (exact HST.out _ (Below.refl _ _).drew) | (exact HST.out _ (below_alloc (by assumption) _)) | (exact HST.out _ (below_alloc (And.left (by assumption)) _)) | (exact HST.out _ (below_alloc (below_alloc (And.left (by assumption)) _) _)))
    (first
    | (go_at_call 67; refine (HCP.out _ (by first | assumption | exact Below.refl _ _ | exact (Below.refl _ _).drew | exact And.left (by assumption))).mono ?_; rintro e w3 ⟨v3, rfl, a3, c3, rfl, hK3, hU3, hb3⟩)
    | (go_at_call 69; refine (HFI.out _ (by first | assumption | exact And.left (by assumption))).mono ?_; rintro e w4 ⟨v4, rfl, rfl, hU4, hb4⟩)
    | (go_at_call 68; refine (HNW.out _ (by first | assumption | exact And.left (by assumption))).mono ?_; rintro e w5 ⟨v5, rfl, part, g5, xs, rfl, hpt5, hrow5, hxl5, htl5, hU5, hb5⟩))
  · go_wp2_with fail
    go_ret2
    obtain ⟨D, hM, hD⟩ := map_made w5
    have e2 := HBw2.out.size
    have e3 : w2.heap.size ≤ w3.heap.size := hU3.size
    have e4 := hU4.size
    have e5 := hU5.size
    have hA := below_alloc (Below.refl w5.heap.size w5) (Obj.map #[] 0)
    refine ⟨_, rfl, xfin (M := w5.heap.size) (lo := w2.heap.size) (by omega) (boxAt_at _ _ _ _ (by simp)) hK3 ?_ (hM.below ((Below.refl _ _).alloc (Nat.le_refl _) _) (by simp)) hD hpt5 hrow5 hxl5 htl5 (below_alloc hA _) (by omega) e4 (.inr (.inr (Nat.le_refl _))) (by omega) (by omega) (by omega) (by omega) e5, ?_⟩
    · exact ((hU4.trans (hU5.mono e4)).alloc (by omega) _).alloc (by simp; omega) _
    · exact HBw2.out.trans (((hb5.alloc hb5.size _).alloc (by simp; omega) _).mono HBw2.out.size)
  · go_wp2_with fail
    go_ret2
    obtain ⟨D, hM, hD⟩ := map_made w4
    have e2 := HBw2.out.size
    have e3 : w2.heap.size ≤ w3.heap.size := hU3.size
    have e4 := hU4.size
    have e5 : w4.heap.size + 1 ≤ w5.heap.size := by have := hU5.size; simpa using this
    have hA : Below w4.heap.size w4 w5 := (below_alloc (Below.refl w4.heap.size w4) (Obj.map #[] 0)).trans (hU5.mono (by simp))
    have hM5 : MapIs w5 w4.heap.size D := hM.below hU5 (by simp)
    refine ⟨_, rfl, xfin (M := w4.heap.size) (lo := w2.heap.size) (lo2 := w4.heap.size + 1) (by omega) (boxAt_at _ _ _ _ rfl) hK3 ?_ (hM5.below ((Below.refl _ _).alloc (Nat.le_refl _) _) hM5.lt) hD (fun b hb => by have := hpt5 b hb; simpa using this) hrow5 hxl5 htl5 (below_alloc (Below.refl _ _) _) (by omega) (by omega) (.inr (.inl ⟨by omega, by omega⟩)) (by omega) (Nat.le_refl _) (by omega) (by omega) e5, ?_⟩
    · exact (hU4.trans (hA.mono e4)).alloc (by omega) _
    · exact HBw2.out.trans ((hb5.alloc hb5.size _).mono HBw2.out.size)
  · go_wp2_with fail
    go_ret2
    obtain ⟨D, hM, hD⟩ := map_made w3
    have e2 := HBw2.out.size
    have e3 : w2.heap.size ≤ w3.heap.size := hU3.size
    have e4 : w3.heap.size + 1 ≤ w4.heap.size := by have := hU4.size; simpa using this
    have e5 := hU5.size
    have hA : Below w3.heap.size w3 w4 := (below_alloc (Below.refl w3.heap.size w3) (Obj.map #[] 0)).trans (hU4.mono (by simp))
    have hM4 : MapIs w4 w3.heap.size D := hM.below hU4 (by simp)
    have hM5 : MapIs w5 w3.heap.size D := hM4.below hU5 hM4.lt
    refine ⟨_, rfl, xfin (M := w3.heap.size) (lo := w2.heap.size) (lo2 := w4.heap.size) (by omega) (boxAt_at _ _ _ _ rfl) hK3 ?_ (hM5.below ((Below.refl _ _).alloc (Nat.le_refl _) _) hM5.lt) hD hpt5 hrow5 hxl5 htl5 (below_alloc (Below.refl _ _) _) (by omega) (by omega) (.inr (.inl ⟨by omega, by omega⟩)) (by omega) (Nat.le_refl _) (by omega) (by omega) e5, ?_⟩
    · exact (hA.trans (hU5.mono (by omega))).alloc (by omega) _
    · exact HBw2.out.trans ((hb5.alloc hb5.size _).mono HBw2.out.size)
  · go_wp2_with fail
    go_ret2
    obtain ⟨D, hM, hD⟩ := map_made w2
    have e2 := HBw2.out.size
    have e3 : w2.heap.size + 1 ≤ w3.heap.size := by have := hU3.size; have h9 : (w2.alloc (Obj.map #[] 0)).heap.size ≤ w3.heap.size := this; simpa using h9
    have e4 := hU4.size
    have e5 := hU5.size
    have hM3 : MapIs w3 w2.heap.size D := by
      have hMd : MapIs (w2.alloc (Obj.map #[] 0)).drew w2.heap.size D := hM
      exact hMd.below hU3 hMd.lt
    have hM4 : MapIs w4 w2.heap.size D := hM3.below hU4 hM3.lt
    have hM5 : MapIs w5 w2.heap.size D := hM4.below hU5 hM4.lt
    have hK3' : KindsAt (fun b => w2.heap.size + 1 ≤ b ∧ b < w3.heap.size) w3 (.slice a3 ks.length c3) ks := hK3.mono' (fun b hb => ⟨by have h9 : (w2.alloc (Obj.map #[] 0)).heap.size ≤ b := hb.1; simpa using h9, hb.2⟩)
    refine ⟨_, rfl, xfin (M := w2.heap.size) (lo := w2.heap.size + 1) (lo2 := w4.heap.size) (by omega) (boxAt_at _ _ _ _ rfl) hK3' ?_ (hM5.below ((Below.refl _ _).alloc (Nat.le_refl _) _) hM5.lt) hD hpt5 hrow5 hxl5 htl5 (below_alloc (Below.refl _ _) _) (by omega) (by omega) (.inl (by omega)) (by omega) (Nat.le_refl _) (by omega) (by omega) e5, ?_⟩
    · exact (hU4.trans (hU5.mono (by omega))).alloc (by omega) _
    · exact HBw2.out.trans ((hb5.alloc hb5.size _).mono HBw2.out.size)
end Go.Proofs.YtgbneeohaboncaaGreatDoor
