/-
  glean.New: the errors of a Config and of a program; else a run whose first task is with worker 0, of new memory alone.
-/
import Derived.Test.YtdbbejedipfckaaGreatDoorXWorkers
import Derived.Deep.RegionHeld3
import Derived.Test.YtdbbejedipfckaaGreatDoorRefNew
namespace Go.Proofs.YtdbbejedipfckaaGreatDoor
open Go Go.RowKit Go.Maps Go.WideMaps

set_option maxHeartbeats 4000000 in
set_option maxRecDepth 100000 in
theorem x_new_bad (a : Option Addr) (cap : Nat) (workers room mode kind arg : Int) (ks : List KindS) (w : World) (hk : KindsAt (fun _ => True) w (.slice a ks.length cap) ks) (hl : ks.length ≤ 9223372036854775806) (hl2 : ∀ k ∈ ks, k.kids.length ≤ 9223372036854775806) (hbad : newE workers room mode ks kind arg ≠ 0) :
    Calls Tryz.prog 26 #[.agg #[.int .i64 workers, .int .i64 room, .int .i64 mode], .agg #[.slice a ks.length cap, .int .i64 kind, .int .i64 arg]] w fun e w' => e = .returned (.tuple #[.pointer none, .int .i64 (newE workers room mode ks kind arg)]) ∧ Below w.heap.size w w' := by
  obtain ⟨V, hV⟩ : ∃ V, (w.alloc (Obj.cells #[.int .i64 workers, .int .i64 room, .int .i64 mode] 39)).alloc (Obj.cells #[.slice a ks.length cap, .int .i64 kind, .int .i64 arg] 42) = V := ⟨_, rfl⟩
  have bC : BoxAt V w.heap.size 39 #[.int .i64 workers, .int .i64 room, .int .i64 mode] := by rw [← hV]; exact (BoxAt.new w _ _).alloc _
  have bP : BoxAt V (w.heap.size + 1) 42 #[.slice a ks.length cap, .int .i64 kind, .int .i64 arg] := by
    rw [← hV]; have := BoxAt.new (w.alloc (Obj.cells #[.int .i64 workers, .int .i64 room, .int .i64 mode] 39)) 42 #[.slice a ks.length cap, .int .i64 kind, .int .i64 arg]
    rw [World.size_alloc] at this; exact this
  have hbV : Below w.heap.size w V := by rw [← hV]; exact ((Below.refl _ _).alloc (Nat.le_refl _) _).alloc (by simp) _
  have c0 := bC.cell (o := 0) rfl
  have c1 := bC.cell (o := 1) rfl
  have c2 := bC.cell (o := 2) rfl
  have HBP := hid_of bP
  have HKV : Hid (KindsAt (fun b => b < w.heap.size) V (.slice a ks.length cap) ks) := (hk.below.kept (Kept.of_below hbV (X := fun b => w.heap.size ≤ b) (fun _ _ h => h)) (fun b h1 h2 => by omega)).mono' (fun _ h => h.2)
  have HBV : Hid (Below w.heap.size w V) := hbV
  have HL2 : Hid (∀ k ∈ ks, k.kids.length ≤ 9223372036854775806) := hl2
  have sV : w.heap.size ≤ V.heap.size := hbV.size
  obtain ⟨cb, hcb⟩ : ∃ cb, cfgB workers room mode = cb := ⟨_, rfl⟩
  have HCF := hid_of (isConfig_calls workers room mode V)
  rw [hcb] at HCF
  obtain ⟨ne, hne⟩ : ∃ ne, newE workers room mode ks kind arg = ne := ⟨_, rfl⟩
  have HNE : Hid (ne = if cb then (unfoldS ks kind arg).1 else 2) := by show _ = _; rw [← hne, ← hcb]; rfl
  rw [hne] at hbad ⊢
  clear bC bP hbV hk hl2 hcb hne
  go_enter Tryz.func26, Tryz.ntmps26
  cases cb with
  | false =>
    obtain rfl : (2 : Int) = ne := HNE.out.symm
    go_wp2_with (go_at_call 67; refine HCF.out.mono ?_; rintro e w1 ⟨rfl, hb1⟩)
    go_ret2
    exact ⟨rfl, HBV.out.trans (hb1.mono sV)⟩
  | true =>
    obtain rfl : (unfoldS ks kind arg).1 = ne := HNE.out.symm
    go_upto_region 3 with (go_at_call 67; refine HCF.out.mono ?_; rintro e w1 ⟨rfl, hb1⟩)
    have hP1 := HBP.out.below hb1 HBP.out.lt
    have p0 := hP1.cell (o := 0) rfl
    have p1 := hP1.cell (o := 1) rfl
    have p2 := hP1.cell (o := 2) rfl
    have HU := hid_of (unfold_calls a cap kind arg ks w1 ((HKV.out.kept (Kept.of_below hb1 (X := fun b => V.heap.size ≤ b) (fun _ _ h => h)) (fun b h1 h2 => by omega)).mono' (fun _ _ => trivial)) hl HL2.out)
    have hb : ((unfoldS ks kind arg).1 != 0) = true := by simpa using hbad
    clear hP1
    go_wp2_with (go_at_call 25; refine HU.out.mono ?_; rintro e w2 ⟨v2, rfl, -, hb2⟩)
    go_ret2
    exact ⟨rfl, (HBV.out.trans (hb1.mono sV)).trans (hb2.mono (by have := hb1.size; omega))⟩
end Go.Proofs.YtdbbejedipfckaaGreatDoor
/-
  glean.New makes a run whose first task is with worker 0, of new memory alone.
-/
namespace Go.Proofs.YtdbbejedipfckaaGreatDoor
open Go Go.RowKit Go.Maps Go.WideMaps

theorem below_alloc {A W : World} (h : Below A.heap.size A W) (o : Obj) : Below A.heap.size A (W.alloc o) := h.alloc h.size o
/-- A run put together of its parts. -/
theorem xok_new {n : Nat} {room mode kind arg : Int} {ks : List KindS} {W : World} {base B M lo hi lo2 hi2 g : Nat} {kv : Value} {part : Nat → Nat} {xs : List XW} (hn : 0 < n) (hbox : BoxAt W B 127 #[kv, .int .i64 kind, .int .i64 arg, .slice (some ⟨g, 0, none⟩) n n, .slice none 0 0, .map (some M), .bool false]) (hK : KindsAt (fun b => lo ≤ b ∧ b < hi) W kv ks)
    {D : DataW Unit} (hM : MapIs W M D) (hD : Maps.size D = 0) (hpt : ∀ b, part b ≠ 0 → lo2 ≤ b ∧ b < hi2 ∧ 7 ≤ part b) (hrow : RowIn (fun b => part b = 7) 135 4 xwEnc W (.slice (some ⟨g, 0, none⟩) n n) xs) (hxl : xs.length = n) (hn5 : n ≤ 5) (htl : ∀ i x, xs[i]? = some x → x.2.2 = (0, false) ∧ TaskListAt (fun b => part b = 10 + i) W x.1 room (if i = 0 then [⟨⟨#[]⟩, kind, arg⟩] else []) ∧ XLinksAt part i W x.2.1 (List.replicate n link0))
    (h1 : base ≤ lo) (h2 : hi ≤ lo2) (h3 : M < lo ∨ (hi ≤ M ∧ M < lo2) ∨ hi2 ≤ M) (h4 : base ≤ M) (h5 : hi2 ≤ B) (h6 : M ≠ B) (h7 : lo ≤ lo2) (h8 : lo2 ≤ hi2) : XOK (fun b => base ≤ b) W B (newS n room mode ks kind arg) := by
  have hpp : ∀ g', part g' ≠ 0 → (fun b => if b = B then 1 else if b = M then 3 else if lo ≤ b ∧ b < hi then 6 else part b) g' = part g' := fun g' hne => by
    have h := hpt g' hne
    exact (if_neg (by omega)).trans ((if_neg (by omega)).trans (if_neg (by omega)))
  refine ⟨fun b => if b = B then 1 else if b = M then 3 else if lo ≤ b ∧ b < hi then 6 else part b, fun b hb => ?_, ⟨kv, _, _, M, xs, hbox, if_pos rfl, hK.mono' (fun b hb => ?_), ⟨hrow.1, fun g' e => ?_⟩, by rw [hxl]; simp [newS]; omega, fun i x y hx hy => ?_, by simp [newS]; omega, fun ls hls => ?_, by simp [newS]; omega, fun i x ls hx hl => ?_, RowIn.nil _ _ _ _ _, ⟨D, hM, (if_neg h6).trans (if_pos rfl), by omega⟩⟩⟩
  · dsimp only at hb
    by_cases e1 : b = B
    · omega
    · rw [if_neg e1] at hb
      by_cases e2 : b = M
      · omega
      · rw [if_neg e2] at hb
        by_cases e3 : lo ≤ b ∧ b < hi
        · omega
        · rw [if_neg e3] at hb
          have := hpt b hb
          omega
  · exact (if_neg (by omega)).trans ((if_neg (by omega)).trans (if_pos hb))
  · have := hrow.2 g' e
    exact (hpp g' (by omega)).trans this
  · obtain ⟨q1, hk, -⟩ := htl i x hx
    have hy' : y.tasks = (if i = 0 then [⟨⟨#[]⟩, kind, arg⟩] else []) ∧ y.sent = 0 ∧ y.asked = false := by
      cases i with
      | zero => simp [newS] at hy; subst hy; exact ⟨rfl, rfl, rfl⟩
      | succ i =>
        have : (List.replicate ((n : Int).toNat - 1) worker0)[i]? = some y := by simpa [newS] using hy
        rw [replicate_get this]
        exact ⟨rfl, rfl, rfl⟩
    rw [hy'.1, hy'.2.1, hy'.2.2]
    exact ⟨q1, hk.kept (Kept.refl (fun _ => False) W) (fun g' _ e => ⟨fun h => h, (hpp g' (by omega)).trans e⟩)⟩
  · have : ls = List.replicate n link0 := by
      have := List.eq_of_mem_replicate hls
      simpa using this
    rw [this]
    simp [newS]; omega
  · have hl' : ls = List.replicate n link0 := by
      have : (List.replicate (n : Int).toNat (List.replicate (n : Int).toNat link0))[i]? = some ls := hl
      rw [replicate_get this]; simp
    rw [hl']
    exact (htl i x hx).2.2.kept (Kept.refl (fun _ => False) W) (fun g' _ e => ⟨fun h => h, hpp g' (by omega)⟩)

theorem xfin {n : Nat} {room mode kind arg : Int} {ks : List KindS} {W W3 W5 : World} {base B M lo lo2 g : Nat} {kv : Value} {part : Nat → Nat} {xs : List XW} {D : DataW Unit} (hn : 0 < n) (hbox : BoxAt W B 127 #[kv, .int .i64 kind, .int .i64 arg, .slice (some ⟨g, 0, none⟩) n n, .slice none 0 0, .map (some M), .bool false]) (hK : KindsAt (fun b => lo ≤ b ∧ b < W3.heap.size) W3 kv ks) (h3 : Below W3.heap.size W3 W)
    (hM : MapIs W M D) (hD : Maps.size D = 0) (hpt : ∀ b, part b ≠ 0 → lo2 ≤ b ∧ b < W5.heap.size ∧ 7 ≤ part b) (hrow : RowIn (fun b => part b = 7) 135 4 xwEnc W5 (.slice (some ⟨g, 0, none⟩) n n) xs) (hxl : xs.length = n) (hn5 : n ≤ 5) (htl : ∀ i x, xs[i]? = some x → x.2.2 = (0, false) ∧ TaskListAt (fun b => part b = 10 + i) W5 x.1 room (if i = 0 then [⟨⟨#[]⟩, kind, arg⟩] else []) ∧ XLinksAt part i W5 x.2.1 (List.replicate n link0)) (h5 : Below W5.heap.size W5 W)
    (g1 : base ≤ lo) (g2 : W3.heap.size ≤ lo2) (g3 : M < lo ∨ (W3.heap.size ≤ M ∧ M < lo2) ∨ W5.heap.size ≤ M) (g4 : base ≤ M) (g5 : W5.heap.size ≤ B) (g6 : M ≠ B) (g7 : lo ≤ lo2) (g8 : lo2 ≤ W5.heap.size) : XOK (fun b => base ≤ b) W B (newS n room mode ks kind arg) := by
  have k5 : Kept (fun b => W5.heap.size ≤ b) W5 W := Kept.of_below h5 (fun _ _ h => h)
  exact xok_new hn hbox (hK.kept (Kept.of_below h3 (X := fun b => W3.heap.size ≤ b) (fun _ _ h => h)) (fun b h1 h2 => by omega)) hM hD hpt (hrow.kept k5 (fun g hg h => ⟨by omega, h⟩)) hxl hn5 (fun i x hx => ⟨(htl i x hx).1, (htl i x hx).2.1.kept k5 (fun g hg h => ⟨by omega, h⟩), (htl i x hx).2.2.kept k5 (fun g hg h => ⟨by omega, rfl⟩)⟩) g1 g2 g3 g4 g5 g6 g7 g8
theorem map_made (W : World) : ∃ D, MapIs (W.alloc (Obj.map #[] 0)) W.heap.size D ∧ Maps.size D = 0 := ⟨_, mapIs_of (World.ownsMap_made W Tryz.prog 9 (plainElem Tryz.prog 3)), rfl⟩

set_option maxHeartbeats 4000000 in
set_option maxRecDepth 100000 in
theorem x_new_good (a : Option Addr) (cap : Nat) (workers room mode kind arg : Int) (ks : List KindS) (w : World) (hk : KindsAt (fun _ => True) w (.slice a ks.length cap) ks) (hc : cfgB workers room mode = true) (hu : (unfoldS ks kind arg).1 = 0) :
    Calls Tryz.prog 26 #[.agg #[.int .i64 workers, .int .i64 room, .int .i64 mode], .agg #[.slice a ks.length cap, .int .i64 kind, .int .i64 arg]] w fun e w' => ∃ B, e = .returned (.tuple #[.pointer (some ⟨B, 0, none⟩), .int .i64 0]) ∧ XOK (fun b => w.heap.size ≤ b) w' B (newS workers room mode ks kind arg) ∧ Below w.heap.size w w' := by
  have hprog : progB ks kind arg = true := by
    by_cases h : progB ks kind arg = true
    · exact h
    · simp [unfoldS, h] at hu
  have hlen5 : ks.length ≤ 5 := by simp [progB, rangeB] at hprog; omega
  have HL2 : Hid (∀ k ∈ ks, k.kids.length ≤ 9223372036854775806) := fun k hk => by
    simp [progB] at hprog
    have := hprog.1.1.2 k hk
    simp [kindB] at this
    have := this.1.2
    omega
  obtain ⟨V, hV⟩ : ∃ V, (w.alloc (Obj.cells #[.int .i64 workers, .int .i64 room, .int .i64 mode] 39)).alloc (Obj.cells #[.slice a ks.length cap, .int .i64 kind, .int .i64 arg] 42) = V := ⟨_, rfl⟩
  have bC : BoxAt V w.heap.size 39 #[.int .i64 workers, .int .i64 room, .int .i64 mode] := by rw [← hV]; exact (BoxAt.new w _ _).alloc _
  have bP : BoxAt V (w.heap.size + 1) 42 #[.slice a ks.length cap, .int .i64 kind, .int .i64 arg] := by
    rw [← hV]; have := BoxAt.new (w.alloc (Obj.cells #[.int .i64 workers, .int .i64 room, .int .i64 mode] 39)) 42 #[.slice a ks.length cap, .int .i64 kind, .int .i64 arg]
    rw [World.size_alloc] at this; exact this
  have hbV : Below w.heap.size w V := by rw [← hV]; exact ((Below.refl _ _).alloc (Nat.le_refl _) _).alloc (by simp) _
  have sV : w.heap.size + 2 ≤ V.heap.size := by rw [← hV]; simp
  have h2 : 2 ≤ workers := by simp [cfgB] at hc; omega
  have h5 : workers ≤ 5 := by simp [cfgB] at hc; omega
  obtain ⟨n, rfl⟩ : ∃ n : Nat, workers = (n : Int) := ⟨workers.toNat, by omega⟩
  have c0 := bC.cell (o := 0) rfl
  have c1 := bC.cell (o := 1) rfl
  have c2 := bC.cell (o := 2) rfl
  have HBP := hid_of bP
  have HBC := hid_of bC
  have HKV : Hid (KindsAt (fun b => b < w.heap.size) V (.slice a ks.length cap) ks) := (hk.below.kept (Kept.of_below hbV (X := fun b => w.heap.size ≤ b) (fun _ _ h => h)) (fun b h1 h2 => by omega)).mono' (fun _ h => h.2)
  have HBV : Hid (Below w.heap.size w V) := hbV
  have HCF := hid_of (isConfig_calls n room mode V)
  rw [hc] at HCF
  have hmm := @run_makeMap Tryz.prog
  have HU0 : Hid ((unfoldS ks kind arg).1 = 0) := hu
  clear bC bP hbV hk hc hu
  go_enter Tryz.func26, Tryz.ntmps26
  go_upto_region 3 with (go_at_call 67; refine HCF.out.mono ?_; rintro e w1 ⟨rfl, hb1⟩)
  have hP1 := HBP.out.below hb1 HBP.out.lt
  have p0 := hP1.cell (o := 0) rfl
  have p1 := hP1.cell (o := 1) rfl
  have p2 := hP1.cell (o := 2) rfl
  have HU := hid_of (unfold_calls a cap kind arg ks w1 ((HKV.out.kept (Kept.of_below hb1 (X := fun b => V.heap.size ≤ b) (fun _ _ h => h)) (fun b h1 h2 => by omega)).mono' (fun _ _ => trivial)) (by omega) HL2.out)
  rw [HU0.out] at HU
  have HB1 := hid_of hb1
  have s1 := hb1.size
  clear hP1 c0 c1 c2 hV
  go_upto_region 6 with (go_at_call 25; refine HU.out.mono ?_; rintro e w2 ⟨v2, rfl, -, hb2⟩)
  have s2 := hb2.size
  have hbV2 : Below V.heap.size V w2 := HB1.out.trans (hb2.mono s1)
  have HP2 := hid_of (HBP.out.below hbV2 HBP.out.lt)
  have HC2 := hid_of (HBC.out.below hbV2 HBC.out.lt)
  have HK2 : Hid (KindsAt (fun b => b < w.heap.size) w2 (.slice a ks.length cap) ks) := HKV.out.kept (Kept.of_below hbV2 (X := fun b => V.heap.size ≤ b) (fun _ _ h => h)) (fun b h1 h2 => by omega)
  have HBw2 : Hid (Below w.heap.size w w2) := HBV.out.trans (hbV2.mono (by omega))
  have HCP : Hid (∀ U, Below w2.heap.size w2 U → Calls Tryz.prog 68 #[.agg #[.slice a ks.length cap, .int .i64 kind, .int .i64 arg]] U fun e w' => ∃ v, e = .returned v ∧ ∃ a' c', v = .agg #[.slice a' ks.length c', .int .i64 kind, .int .i64 arg] ∧ KindsAt (fun b => U.heap.size ≤ b ∧ b < w'.heap.size) w' (.slice a' ks.length c') ks ∧ Below U.heap.size U w' ∧ Below w2.heap.size w2 w') := fun U hU => by
    refine (copy_calls a cap kind arg ks U ((HK2.out.kept (Kept.of_below hU (X := fun b => w2.heap.size ≤ b) (fun _ _ h => h)) (fun b h1 h2 => by have := HBw2.out.size; omega)).mono' (fun _ _ => trivial)) hprog).mono ?_
    rintro e w' ⟨a', c', rfl, h1, h2⟩
    exact ⟨_, rfl, a', c', rfl, h1.below, h2, hU.trans (h2.mono hU.size)⟩
  have HFI : Hid (∀ U, Below w2.heap.size w2 U → Calls Tryz.prog 70 #[.agg #[.slice a ks.length cap, .int .i64 kind, .int .i64 arg]] U fun e w' => ∃ v, e = .returned v ∧ v = .agg #[.string ⟨#[]⟩, .int .i64 kind, .int .i64 arg] ∧ Below U.heap.size U w' ∧ Below w2.heap.size w2 w') := fun U hU => by
    refine (first_calls a ks.length cap kind arg U).mono ?_
    rintro e w' ⟨rfl, h1⟩
    exact ⟨_, rfl, rfl, h1, hU.trans (h1.mono hU.size)⟩
  have HNW : Hid (∀ U, Below w2.heap.size w2 U → Calls Tryz.prog 69 #[.agg #[.int .i64 n, .int .i64 room, .int .i64 mode], .agg #[.string ⟨#[]⟩, .int .i64 kind, .int .i64 arg]] U fun e w' => ∃ v, e = .returned v ∧ ∃ (part : Nat → Nat) (g : Nat) (xs : List XW), v = .slice (some ⟨g, 0, none⟩) n n ∧ (∀ b, part b ≠ 0 → U.heap.size ≤ b ∧ b < w'.heap.size ∧ 7 ≤ part b) ∧
      RowIn (fun b => part b = 7) 135 4 xwEnc w' (.slice (some ⟨g, 0, none⟩) n n) xs ∧ xs.length = n ∧ (∀ i x, xs[i]? = some x → x.2.2 = (0, false) ∧ TaskListAt (fun b => part b = 10 + i) w' x.1 room (if i = 0 then [⟨⟨#[]⟩, kind, arg⟩] else []) ∧ XLinksAt part i w' x.2.1 (List.replicate n link0)) ∧ Below U.heap.size U w' ∧ Below w2.heap.size w2 w') := fun U hU => by
    refine (newWorkers_calls n room mode ⟨⟨#[]⟩, kind, arg⟩ U (by omega) (by omega)).mono ?_
    rintro e w' ⟨part, g, xs, rfl, h1, h2, h3, h4, h5⟩
    exact ⟨_, rfl, part, g, xs, rfl, h1, h2, h3, h4, h5, hU.trans (h5.mono hU.size)⟩
  clear p0 p1 p2 hb1 hb2 hbV2
  have HST : Hid (∀ U, Below w2.heap.size w2 U → Below w2.heap.size w2 U ∧ U.cell? ⟨w.heap.size + 1, 0, none⟩ = some (.slice a ks.length cap) ∧ U.cell? ⟨w.heap.size + 1, 1, none⟩ = some (.int .i64 kind) ∧ U.cell? ⟨w.heap.size + 1, 2, none⟩ = some (.int .i64 arg) ∧ U.cell? ⟨w.heap.size, 0, none⟩ = some (.int .i64 n) ∧ U.cell? ⟨w.heap.size, 1, none⟩ = some (.int .i64 room) ∧ U.cell? ⟨w.heap.size, 2, none⟩ = some (.int .i64 mode)) := fun U hU => by
    have hP := HP2.out.below hU HP2.out.lt
    have hC := HC2.out.below hU HC2.out.lt
    exact ⟨hU, hP.cell (o := 0) rfl, hP.cell (o := 1) rfl, hP.cell (o := 2) rfl, hC.cell (o := 0) rfl, hC.cell (o := 1) rfl, hC.cell (o := 2) rfl⟩
  have p0 := HP2.out.cell (o := 0) rfl
  have p1 := HP2.out.cell (o := 1) rfl
  have p2 := HP2.out.cell (o := 2) rfl
  have c0 := HC2.out.cell (o := 0) rfl
  have c1 := HC2.out.cell (o := 1) rfl
  have c2 := HC2.out.cell (o := 2) rfl
  go_region_held3 (fun U => Below w2.heap.size w2 U ∧ U.cell? ⟨w.heap.size + 1, 0, none⟩ = some (.slice a ks.length cap) ∧ U.cell? ⟨w.heap.size + 1, 1, none⟩ = some (.int .i64 kind) ∧ U.cell? ⟨w.heap.size + 1, 2, none⟩ = some (.int .i64 arg) ∧ U.cell? ⟨w.heap.size, 0, none⟩ = some (.int .i64 n) ∧ U.cell? ⟨w.heap.size, 1, none⟩ = some (.int .i64 room) ∧ U.cell? ⟨w.heap.size, 2, none⟩ = some (.int .i64 mode))
    (first | assumption | (exact HST.out _ (by assumption)) | (exact HST.out _ (Below.refl _ _)) | (exact HST.out _ (Below.refl _ _).drew) | (exact HST.out _ (below_alloc (by assumption) _)) | (exact HST.out _ (below_alloc (And.left (by assumption)) _)) | (exact HST.out _ (below_alloc (below_alloc (And.left (by assumption)) _) _)))
    (first
    | (go_at_call 68; refine (HCP.out _ (by first | assumption | exact Below.refl _ _ | exact (Below.refl _ _).drew | exact And.left (by assumption))).mono ?_; rintro e w3 ⟨v3, rfl, a3, c3, rfl, hK3, hU3, hb3⟩)
    | (go_at_call 70; refine (HFI.out _ (by first | assumption | exact And.left (by assumption))).mono ?_; rintro e w4 ⟨v4, rfl, rfl, hU4, hb4⟩)
    | (go_at_call 69; refine (HNW.out _ (by first | assumption | exact And.left (by assumption))).mono ?_; rintro e w5 ⟨v5, rfl, part, g5, xs, rfl, hpt5, hrow5, hxl5, htl5, hU5, hb5⟩))
  · go_wp2_with fail
    go_ret2
    obtain ⟨D, hM, hD⟩ := map_made w5
    have e2 := HBw2.out.size
    have e3 : w2.heap.size ≤ w3.heap.size := hU3.size
    have e4 := hU4.size
    have e5 := hU5.size
    have hA := below_alloc (Below.refl w5.heap.size w5) (Obj.map #[] 0)
    refine ⟨_, rfl, xfin (M := w5.heap.size) (lo := w2.heap.size) (by omega) (boxAt_at _ _ _ _ (by simp)) hK3 ?_ (hM.below ((Below.refl _ _).alloc (Nat.le_refl _) _) (by simp)) hD hpt5 hrow5 hxl5 (by omega) htl5 (below_alloc hA _) (by omega) e4 (.inr (.inr (Nat.le_refl _))) (by omega) (by omega) (by omega) (by omega) e5, ?_⟩
    · exact ((hU4.trans (hU5.mono e4)).alloc (by omega) _).alloc (by simp; omega) _
    · exact HBw2.out.trans (((hb5.alloc hb5.size _).alloc (by simp; omega) _).mono HBw2.out.size)
  · go_wp2_with fail
    go_ret2
    obtain ⟨D, hM, hD⟩ := map_made w4
    have e2 := HBw2.out.size
    have e3 : w2.heap.size ≤ w3.heap.size := hU3.size
    have e4 := hU4.size
    have e5 : w4.heap.size + 1 ≤ w5.heap.size := by have := hU5.size; simpa using this
    have hA : Below w4.heap.size w4 w5 := (below_alloc (Below.refl w4.heap.size w4) (Obj.map #[] 0)).trans (hU5.mono (by simp))
    have hM5 : MapIs w5 w4.heap.size D := hM.below hU5 (by simp)
    refine ⟨_, rfl, xfin (M := w4.heap.size) (lo := w2.heap.size) (lo2 := w4.heap.size + 1) (by omega) (boxAt_at _ _ _ _ rfl) hK3 ?_ (hM5.below ((Below.refl _ _).alloc (Nat.le_refl _) _) hM5.lt) hD (fun b hb => by have := hpt5 b hb; simpa using this) hrow5 hxl5 (by omega) htl5 (below_alloc (Below.refl _ _) _) (by omega) (by omega) (.inr (.inl ⟨by omega, by omega⟩)) (by omega) (Nat.le_refl _) (by omega) (by omega) e5, ?_⟩
    · exact (hU4.trans (hA.mono e4)).alloc (by omega) _
    · exact HBw2.out.trans ((hb5.alloc hb5.size _).mono HBw2.out.size)
  · go_wp2_with fail
    go_ret2
    obtain ⟨D, hM, hD⟩ := map_made w3
    have e2 := HBw2.out.size
    have e3 : w2.heap.size ≤ w3.heap.size := hU3.size
    have e4 : w3.heap.size + 1 ≤ w4.heap.size := by have := hU4.size; simpa using this
    have e5 := hU5.size
    have hA : Below w3.heap.size w3 w4 := (below_alloc (Below.refl w3.heap.size w3) (Obj.map #[] 0)).trans (hU4.mono (by simp))
    have hM4 : MapIs w4 w3.heap.size D := hM.below hU4 (by simp)
    have hM5 : MapIs w5 w3.heap.size D := hM4.below hU5 hM4.lt
    refine ⟨_, rfl, xfin (M := w3.heap.size) (lo := w2.heap.size) (lo2 := w4.heap.size) (by omega) (boxAt_at _ _ _ _ rfl) hK3 ?_ (hM5.below ((Below.refl _ _).alloc (Nat.le_refl _) _) hM5.lt) hD hpt5 hrow5 hxl5 (by omega) htl5 (below_alloc (Below.refl _ _) _) (by omega) (by omega) (.inr (.inl ⟨by omega, by omega⟩)) (by omega) (Nat.le_refl _) (by omega) (by omega) e5, ?_⟩
    · exact (hA.trans (hU5.mono (by omega))).alloc (by omega) _
    · exact HBw2.out.trans ((hb5.alloc hb5.size _).mono HBw2.out.size)
  · go_wp2_with fail
    go_ret2
    obtain ⟨D, hM, hD⟩ := map_made w2
    have e2 := HBw2.out.size
    have e3 : w2.heap.size + 1 ≤ w3.heap.size := by have := hU3.size; have h9 : (w2.alloc (Obj.map #[] 0)).heap.size ≤ w3.heap.size := this; simpa using h9
    have e4 := hU4.size
    have e5 := hU5.size
    have hM3 : MapIs w3 w2.heap.size D := by
      have hMd : MapIs (w2.alloc (Obj.map #[] 0)).drew w2.heap.size D := hM
      exact hMd.below hU3 hMd.lt
    have hM4 : MapIs w4 w2.heap.size D := hM3.below hU4 hM3.lt
    have hM5 : MapIs w5 w2.heap.size D := hM4.below hU5 hM4.lt
    have hK3' : KindsAt (fun b => w2.heap.size + 1 ≤ b ∧ b < w3.heap.size) w3 (.slice a3 ks.length c3) ks := hK3.mono' (fun b hb => ⟨by have h9 : (w2.alloc (Obj.map #[] 0)).heap.size ≤ b := hb.1; simpa using h9, hb.2⟩)
    refine ⟨_, rfl, xfin (M := w2.heap.size) (lo := w2.heap.size + 1) (lo2 := w4.heap.size) (by omega) (boxAt_at _ _ _ _ rfl) hK3' ?_ (hM5.below ((Below.refl _ _).alloc (Nat.le_refl _) _) hM5.lt) hD hpt5 hrow5 hxl5 (by omega) htl5 (below_alloc (Below.refl _ _) _) (by omega) (by omega) (.inl (by omega)) (by omega) (Nat.le_refl _) (by omega) (by omega) e5, ?_⟩
    · exact (hU4.trans (hU5.mono (by omega))).alloc (by omega) _
    · exact HBw2.out.trans ((hb5.alloc hb5.size _).mono HBw2.out.size)
end Go.Proofs.YtdbbejedipfckaaGreatDoor
/-
  The project's Run in memory, opened: what stays of it when one of its parts is changed.
-/
namespace Go.Proofs.YtdbbejedipfckaaGreatDoor
open Go Go.RowKit

section
variable {part part' : Nat → Nat} {W W' : World} {B M : Nat} {s : RunS} {kv wv yv : Value} {xs : List XW}
theorem Moved.okX {F : Nat → Prop} (h : Moved part part' W W') (hr : XAtO part' W' B s kv wv yv M xs) (hF : ∀ b, part b ≠ 0 → F b) : XOK (fun b => F b ∨ W.heap.size ≤ b) W' B s ∧ Kept F W W' := by
  refine ⟨⟨part', fun b hb => ?_, kv, wv, yv, M, xs, hr⟩, h.kept.mono (fun b _ hb => hF b hb)⟩
  rcases Nat.lt_or_ge b W.heap.size with hl | hl
  · exact .inl (hF b (h.old b hl hb))
  · exact .inr hl
/-- Nothing is changed, blocks may be new. -/
theorem XAtO.later (h : XAtO part W B s kv wv yv M xs) (hb : Below W.heap.size W W') : XAtO (ext W part 0) W' B s kv wv yv M xs ∧ Moved part (ext W part 0) W W' := by
  have k : Kept (fun b => W.heap.size ≤ b) W W' := Kept.of_below hb (fun _ _ h => h)
  exact ⟨h.kept k (fun g hg _ => ⟨by omega, ext_old hg⟩), Moved.of 0 k (fun g hl hg => by omega)⟩
/-- Nothing of it is changed. -/
theorem XAtO.aside {Y : Nat → Prop} (h : XAtO part W B s kv wv yv M xs) (k : Kept Y W W') (hY : ∀ g, g < W.heap.size → Y g → part g = 0) : XAtO (ext W part 0) W' B s kv wv yv M xs :=
  h.kept k (fun g hg hp => ⟨fun hy => hp (hY g hg hy), ext_old hg⟩)
/-- A worker lacked room. -/
theorem XAtO.over (h : XAtO part W B s kv wv yv M xs) (k : Kept (· = B) W W') (hb : BoxAt W' B 127 (xrunCells { s with over := true } kv wv yv M)) : XAtO (ext W part 0) W' B { s with over := true } kv wv yv M xs ∧ Moved part (ext W part 0) W W' := by
  have hY : ∀ g, g < W.heap.size → g = B → part g = 1 := fun g _ e => by rw [e]; exact h.pB
  have R := h.rest (part' := ext W part 0) 5 k (fun g hg => ext_old hg) (fun g hl hg => .inl (hY g hl hg))
  exact ⟨⟨hb, (ext_old h.box.lt).trans h.pB, R.kinds (by omega), R.wrow (by omega), h.wlen, fun i x y => R.wat i x y (by omega), h.llen, h.lrow, h.five, fun i x ls => R.lat i x ls (by omega) (.inl (by omega)), R.yrow (by omega), R.vals (by omega)⟩, Moved.of 0 k (fun g hl hg => by have := hY g hl hg; omega)⟩
/-- Other messages are on their way. -/
theorem XAtO.reway {yv' : Value} {way' : List MsgS} (h : XAtO part W B s kv wv yv M xs) (k : Kept (fun g => g = B ∨ part g = 2) W W') (hb : BoxAt W' B 127 (xrunCells { s with way := way' } kv wv yv' M))
    (hr : W'.ownsRow 0 139 15 yv' way'.length (way'.flatMap msgEnc)) (ho : ∀ g, yv'.ownBlock = some g → part g = 2 ∧ g < W.heap.size ∨ W.heap.size ≤ g) :
    XAtO (ext W part 2) W' B { s with way := way' } kv wv yv' M xs ∧ Moved part (ext W part 2) W W' := by
  have hpB := h.pB
  have hY : ∀ g, g < W.heap.size → (g = B ∨ part g = 2) → part g = 1 ∨ part g = 2 := fun g _ e => by rcases e with rfl | e <;> omega
  have R := h.rest (part' := ext W part 2) 2 k (fun g hg => ext_old hg) hY
  exact ⟨⟨hb, (ext_old h.box.lt).trans h.pB, R.kinds (by omega), R.wrow (by omega), h.wlen, fun i x y => R.wat i x y (by omega), h.llen, h.lrow, h.five, fun i x ls => R.lat i x ls (by omega) (.inl (by omega)), rowIn_ext hr ho, R.vals (by omega)⟩, Moved.of 2 k (fun g hl hg => by have := hY g hl hg; omega)⟩
/-- Other values are kept. -/
theorem XAtO.revals {vs : List (ByteArray × Int)} (h : XAtO part W B s kv wv yv M xs) (k : Kept (· = M) W W') (hv : KeptAt part W' M vs) : XAtO (ext W part 0) W' B { s with values := vs } kv wv yv M xs ∧ Moved part (ext W part 0) W W' := by
  have h3 := h.vals.is
  have hpB := h.pB
  have hY : ∀ g, g < W.heap.size → g = M → part g = 3 := fun g _ e => by rw [e]; exact h3
  have R := h.rest (part' := ext W part 0) 3 k (fun g hg => ext_old hg) (fun g hl hg => .inr (hY g hl hg))
  refine ⟨⟨h.box.kept k (fun e => by rw [e] at hpB; omega), (ext_old h.box.lt).trans h.pB, R.kinds (by omega), R.wrow (by omega), h.wlen, fun i x y => R.wat i x y (by omega), h.llen, h.lrow, h.five, fun i x ls => R.lat i x ls (by omega) (.inl (by omega)), R.yrow (by omega), ?_⟩, Moved.of 0 k (fun g hl hg => by have := hY g hl hg; omega)⟩
  obtain ⟨D, h1, h2, h4⟩ := hv
  exact ⟨D, h1, (ext_old h.vals.lt).trans h3, h4⟩
/-- A worker has other tasks. -/
theorem XAtO.retasks {i : Nat} {x : XW} {y : WorkerS} {l : List TaskS} (h : XAtO part W B s kv wv yv M xs) (hi : xs[i]? = some x) (hy : s.W[i]? = some y) (k : Kept (fun g => part g = 10 + i) W W')
    (hx : TaskListAt (fun b => part b = 10 + i ∧ b < W.heap.size ∨ W.heap.size ≤ b) W' x.1 s.room l) : XAtO (ext W part (10 + i)) W' B { s with W := s.W.set i { y with tasks := l } } kv wv yv M xs ∧ Moved part (ext W part (10 + i)) W W' := by
  have hpB := h.pB
  have h5 := h.five
  have hil := (List.getElem?_eq_some_iff.1 hy).1
  have R := h.rest (part' := ext W part (10 + i)) (10 + i) k (fun g hg => ext_old hg) (fun g _ hg => .inr hg)
  refine ⟨⟨h.box.kept k (by omega), (ext_old h.box.lt).trans h.pB, R.kinds (by omega), R.wrow (by omega), by simpa using h.wlen, fun i' x' y' hx' hy' => ?_, by simpa using h.llen, by simpa using h.lrow, by simpa using h5, fun i x ls => R.lat i x ls (by omega) (.inl (by omega)), R.yrow (by omega), R.vals (by omega)⟩, Moved.of _ k (fun g hl hg => by omega)⟩
  have hy1 : (s.W.set i { y with tasks := l })[i']? = some y' := hy'
  by_cases e : i' = i
  · subst e
    rw [hi] at hx'
    obtain rfl := Option.some.inj hx'
    rw [List.getElem?_set_self hil] at hy1
    obtain rfl := Option.some.inj hy1
    refine ⟨(h.wat i' x y hi hy).1, hx.kept (Kept.refl (fun _ => False) W') (fun b _ hb => ⟨fun h => h, ?_⟩)⟩
    rcases hb with ⟨h1, h2⟩ | h1
    · exact (ext_old h2).trans h1
    · exact ext_new h1
  · rw [List.getElem?_set_ne (fun e' => e e'.symm)] at hy1
    exact R.wat i' x' y' (by omega) hx' hy1
/-- A worker's numbers are others. -/
theorem XAtO.renote {i : Nat} {x : XW} {y y' : WorkerS} (h : XAtO part W B s kv wv yv M xs) (hi : xs[i]? = some x) (hy : s.W[i]? = some y) (ht : y'.tasks = y.tasks) (k : Kept (fun g => part g = 7) W W')
    (hr : W'.ownsRow 0 135 4 wv (xs.set i (x.1, x.2.1, y'.sent, y'.asked)).length ((xs.set i (x.1, x.2.1, y'.sent, y'.asked)).flatMap xwEnc)) : XAtO (ext W part 0) W' B { s with W := s.W.set i y' } kv wv yv M (xs.set i (x.1, x.2.1, y'.sent, y'.asked)) ∧ Moved part (ext W part 0) W W' := by
  have hpB := h.pB
  have hil := (List.getElem?_eq_some_iff.1 hy).1
  have hxl := (List.getElem?_eq_some_iff.1 hi).1
  have R := h.rest (part' := ext W part 0) 7 k (fun g hg => ext_old hg) (fun g _ hg => .inr hg)
  refine ⟨⟨h.box.kept k (by omega), (ext_old h.box.lt).trans h.pB, R.kinds (by omega), ⟨hr, fun g e => (ext_old (h.wrow.1.lt g e).2).trans (h.wrow.2 g e)⟩, by simpa using h.wlen, fun i' x' z hx' hz => ?_, by simpa using h.llen, by simpa using h.lrow, by simpa using h.five, fun i' x' ls hx' hl => ?_, R.yrow (by omega), R.vals (by omega)⟩, Moved.of _ k (fun g hl hg => by omega)⟩
  · have hy1 : (s.W.set i y')[i']? = some z := hz
    by_cases e : i' = i
    · subst e
      rw [List.getElem?_set_self hxl] at hx'
      obtain rfl := Option.some.inj hx'
      rw [List.getElem?_set_self hil] at hy1
      obtain rfl := Option.some.inj hy1
      exact ⟨rfl, by rw [ht]; exact (R.wat i' x y (by omega) hi hy).2⟩
    · rw [List.getElem?_set_ne (fun e' => e e'.symm)] at hy1 hx'
      exact R.wat i' x' z (by omega) hx' hy1
  · by_cases e : i' = i
    · subst e
      rw [List.getElem?_set_self hxl] at hx'
      obtain rfl := Option.some.inj hx'
      exact R.lat i' x ls (by omega) (.inl (by omega)) hi hl
    · rw [List.getElem?_set_ne (fun e' => e e'.symm)] at hx'
      exact R.lat i' x' ls (by omega) (.inl (by omega)) hx' hl
/-- A link is another. -/
theorem XAtO.relink {i j q : Nat} {x : XW} {ls : List LinkS} {l' : LinkS} {qs : List (Option Nat)} (h : XAtO part W B s kv wv yv M xs) (hi : xs[i]? = some x) (hl : s.links[i]? = some ls) (hij : j ≠ i) (hqs : RowIn (fun b => part b = 9) 189 1 optEnc W x.2.1 qs) (hql : qs.length = ls.length) (hqe : ∀ j q l, qs[j]? = some q → ls[j]? = some l → EndAt part i j W l q) (hq : qs[j]? = some (some q)) (k : Kept (fun g => part g = 100 + 10 * i + j) W W')
    (hx : OutAt (fun b => part b = 100 + 10 * i + j ∧ b < W.heap.size ∨ W.heap.size ≤ b) W' q l') : XAtO (ext W part (100 + 10 * i + j)) W' B { s with links := s.links.set i (ls.set j l') } kv wv yv M xs ∧ Moved part (ext W part (100 + 10 * i + j)) W W' := by
  have hpB := h.pB
  have h5 := h.five
  have hil := (List.getElem?_eq_some_iff.1 hl).1
  have hll := h.lrow ls (List.mem_of_getElem? hl)
  have hjl : j < ls.length := by have := (List.getElem?_eq_some_iff.1 hq).1; omega
  have R := h.rest (part' := ext W part (100 + 10 * i + j)) (100 + 10 * i + j) k (fun g hg => ext_old hg) (fun g _ hg => .inr hg)
  have hllen := h.llen
  refine ⟨⟨h.box.kept k (by omega), (ext_old h.box.lt).trans h.pB, R.kinds (by omega), R.wrow (by omega), h.wlen, fun i' x' y' hx' hy' => R.wat i' x' y' (by have h' : i' < s.W.length := (List.getElem?_eq_some_iff.1 hy').1; omega) hx' hy', by simpa using h.llen, fun ls' hls' => ?_, h5, fun i' x' ls' hx' hl' => ?_, R.yrow (by omega), R.vals (by omega)⟩, Moved.of _ k (fun g hl hg => by omega)⟩
  · rcases List.mem_or_eq_of_mem_set hls' with h' | rfl
    · exact h.lrow ls' h'
    · simpa using hll
  · have hl1 : (s.links.set i (ls.set j l'))[i']? = some ls' := hl'
    by_cases e : i' = i
    · subst e
      rw [hi] at hx'
      obtain rfl := Option.some.inj hx'
      rw [List.getElem?_set_self hil] at hl1
      obtain rfl := Option.some.inj hl1
      refine ⟨qs, hqs.kept k (fun g hg e => ⟨by omega, (ext_old hg).trans e⟩), by simpa using hql, fun j' q' l hq' hl2 => ?_⟩
      by_cases e : j' = j
      · subst e
        rw [hq] at hq'
        obtain rfl := Option.some.inj hq'
        rw [List.getElem?_set_self hjl] at hl2
        obtain rfl := Option.some.inj hl2
        refine ⟨hij, hx.kept (Kept.refl (fun _ => False) W') (fun b _ hb => ⟨fun h => h, ?_⟩)⟩
        rcases hb with ⟨h1, h2⟩ | h1
        · exact (ext_old h2).trans h1
        · exact ext_new h1
      · rw [List.getElem?_set_ne (fun e' => e e'.symm)] at hl2
        exact (hqe j' q' l hq' hl2).kept k (fun g hg e => ⟨by omega, (ext_old hg).trans e⟩)
    · rw [List.getElem?_set_ne (fun e' => e e'.symm)] at hl1
      have := h.lrow ls' (List.mem_of_getElem? hl1)
      exact R.lat i' x' ls' (by omega) (by omega) hx' hl1
end
/-- What a call that changes something gives. -/
def XGives (F : Nat → Prop) (w : World) (B : Nat) (r : RunS × Int) (e : Ending) (w' : World) : Prop := e = .returned (.int .i64 r.2) ∧ XOK (fun b => F b ∨ w.heap.size ≤ b) w' B r.1 ∧ Kept F w w'
end Go.Proofs.YtdbbejedipfckaaGreatDoor
/-
  gleanref's Run.Work, the document's own answer, of a worker that is idle and of worker 0.
-/
namespace Go.Proofs.YtdbbejedipfckaaGreatDoor
open Go Go.RowKit

/-- The errors that come first with what changes something; the same, and whether there is this worker. -/
def startE (s : RunS) : Int := if s.done then 5 else if s.over then 6 else 0
def workerE (s : RunS) (i : Int) : Int := if startE s = 0 ∧ (i < 0 ∨ s.workers ≤ i) then 7 else startE s
/-- A message put on its way. -/
def wayS (s : RunS) (m : MsgS) : RunS := if s.way.length < 60 then { s with way := s.way ++ [m] } else s
/-- Something sent on a link. -/
def sendS (s : RunS) (m : MsgS) : RunS :=
  let ls := s.links[m.src.toNat]?.getD []
  let l := ls[m.dst.toNat]?.getD link0
  let m' := { m with no := l.all.length + 1 }
  let s1 := { s with links := s.links.set m.src.toNat (ls.set m.dst.toNat { l with all := l.all ++ [m'] }) }
  let x := s1.W[m.src.toNat]?.getD worker0
  let s2 := if m.kind = 2 ∨ m.kind = 4 then { s1 with W := s1.W.set m.src.toNat { x with sent := x.sent + 1 } } else s1
  wayS s2 m'
/-- Work's answer: the run then, and the error's number. -/
def workS (s : RunS) (i : Int) : RunS × Int :=
  if workerE s i ≠ 0 then (s, workerE s i) else
    match s.W[i.toNat]? with
    | none => (s, 8)
    | some x =>
      match x.tasks.getLast? with
      | none => (s, 8)
      | some t =>
        if s.room < (x.tasks.length : Int) - 1 + ((children s.ks t).length : Int) then ({ s with over := true }, 6)
        else
          let s1 := { s with W := s.W.set i.toNat { x with tasks := x.tasks.dropLast ++ children s.ks t } }
          if i = 0 then ({ s1 with values := putS s.values (t.id, valueOf s.ks t) }, 0)
          else (sendS s1 { msg0 with src := i, dst := 0, kind := 4, v := (t.id, valueOf s.ks t) }, 0)

theorem ref_begins_nil (w : World) : Calls Tryz.prog 100 #[.pointer none] w fun e w' => e = .returned (.int .i64 1) ∧ w' = w := by
  go_enter Tryz.func100, Tryz.ntmps100
  go_wp2_with fail
  go_ret
  exact ⟨rfl, rfl⟩
theorem ref_worker_nil (i : Int) (w : World) : Calls Tryz.prog 83 #[.pointer none, .int .i64 i] w fun e w' => e = .returned (.int .i64 1) ∧ w' = w := by
  go_enter Tryz.func83, Tryz.ntmps83
  go_wp2_with (go_at_call 100; refine (ref_begins_nil w).mono ?_; rintro e w1 ⟨rfl, rfl⟩)
  go_ret
  exact ⟨rfl, rfl⟩
theorem ref_work_nil (i : Int) (w : World) : Calls Tryz.prog 47 #[.pointer none, .int .i64 i] w fun e w' => e = .returned (.int .i64 1) ∧ w' = w := by
  go_enter Tryz.func47, Tryz.ntmps47
  go_wp2_with (go_at_call 83; refine (ref_worker_nil i w).mono ?_; rintro e w1 ⟨rfl, rfl⟩)
  go_ret
  exact ⟨rfl, rfl⟩
set_option maxHeartbeats 1000000 in
theorem ref_begins_calls (F : Nat → Prop) (B : Nat) (s : RunS) (w : World) (hr : RefOK F w B s) : Calls Tryz.prog 100 #[.pointer (some ⟨B, 0, none⟩)] w fun e w' => e = .returned (.int .i64 (startE s)) ∧ w' = w := by
  obtain ⟨part, -, kv, wv, lv, yv, vv, av, ps, rows, hb, -⟩ := hr
  have b13 : w.cell? ⟨B, 13, none⟩ = some (.bool s.over) := hb.cell (o := 13) rfl
  have b14 : w.cell? ⟨B, 14, none⟩ = some (.bool s.done) := hb.cell (o := 14) rfl
  clear hb
  obtain ⟨d, hd⟩ : ∃ d, s.done = d := ⟨_, rfl⟩
  obtain ⟨o, ho⟩ : ∃ o, s.over = o := ⟨_, rfl⟩
  have he : startE s = if d then 5 else if o then 6 else 0 := by simp [startE, hd, ho]
  rw [he]
  rw [hd] at b14
  rw [ho] at b13
  clear he hd ho
  go_enter Tryz.func100, Tryz.ntmps100
  cases d <;> cases o
  all_goals
    go_wp2_with fail
    go_ret
    exact ⟨rfl, rfl⟩
set_option maxHeartbeats 1000000 in
theorem ref_worker_calls (F : Nat → Prop) (B : Nat) (s : RunS) (i : Int) (w : World) (hr : RefOK F w B s) : Calls Tryz.prog 83 #[.pointer (some ⟨B, 0, none⟩), .int .i64 i] w fun e w' => e = .returned (.int .i64 (workerE s i)) ∧ w' = w := by
  have HB : Hid (Calls Tryz.prog 100 #[.pointer (some ⟨B, 0, none⟩)] w fun e w' => e = .returned (.int .i64 (startE s)) ∧ w' = w) := ref_begins_calls F B s w hr
  obtain ⟨part, -, kv, wv, lv, yv, vv, av, ps, rows, hb, -⟩ := hr
  have b0 : w.cell? ⟨B, 0, none⟩ = some (.int .i64 s.workers) := hb.cell (o := 0) rfl
  clear hb
  obtain ⟨e, he⟩ : ∃ e, startE s = e := ⟨_, rfl⟩
  obtain ⟨n, hn⟩ : ∃ n, s.workers = n := ⟨_, rfl⟩
  have hw : workerE s i = if e = 0 ∧ (i < 0 ∨ n ≤ i) then 7 else e := by simp [workerE, he, hn]
  rw [hw]
  rw [he] at HB
  rw [hn] at b0
  clear hw he hn
  go_enter Tryz.func83, Tryz.ntmps83
  by_cases h0 : e = 0
  · subst h0
    by_cases h1 : i < 0
    · rw [if_pos ⟨rfl, .inl h1⟩]
      go_wp2_with (go_at_call 100; refine HB.out.mono ?_; rintro e w1 ⟨rfl, rfl⟩)
      go_ret
      exact ⟨rfl, rfl⟩
    · by_cases h2 : n ≤ i
      · rw [if_pos ⟨rfl, .inr h2⟩]
        go_wp2_with (go_at_call 100; refine HB.out.mono ?_; rintro e w1 ⟨rfl, rfl⟩)
        go_ret
        exact ⟨rfl, rfl⟩
      · rw [if_neg (by omega)]
        go_wp2_with (go_at_call 100; refine HB.out.mono ?_; rintro e w1 ⟨rfl, rfl⟩)
        go_ret
        exact ⟨rfl, rfl⟩
  · rw [if_neg (by omega)]
    have hb : (e == 0) = false := by rw [beq_eq_false_iff_ne]; exact h0
    go_wp2_with (go_at_call 100; refine HB.out.mono ?_; rintro e w1 ⟨rfl, rfl⟩)
    go_ret
    exact ⟨rfl, rfl⟩
end Go.Proofs.YtdbbejedipfckaaGreatDoor
