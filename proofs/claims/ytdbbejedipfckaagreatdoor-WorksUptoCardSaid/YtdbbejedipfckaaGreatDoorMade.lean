/-
  gleanlaw.made: New of the program and of the document's answer: both answer alike, and begin alike.
-/
import Derived.Test.YtdbbejedipfckaaGreatDoorTamed
import Derived.Test.YtdbbejedipfckaaGreatDoorXPut
namespace Go.Proofs.YtdbbejedipfckaaGreatDoor
open Go Go.RowKit

theorem good_prog {ks : List KindS} {kind arg : Int} (hu : (unfoldS ks kind arg).1 = 0) : progB ks kind arg = true := by
  by_cases h : progB ks kind arg = true
  · exact h
  · simp [unfoldS, h] at hu
theorem Alone.new {workers room mode kind arg : Int} {ks : List KindS} (hc : cfgB workers room mode = true) (hu : (unfoldS ks kind arg).1 = 0) : Alone (newS workers room mode ks kind arg) 0 := by
  have hp := good_prog hu
  simp [cfgB] at hc
  have hr : 0 ≤ kind ∧ kind < ks.length ∧ 0 ≤ arg ∧ arg ≤ 12 := by
    have := hp
    simp [progB, rangeB, numB] at this
    omega
  have hW : ∀ x ∈ (newS workers room mode ks kind arg).W, x = { worker0 with tasks := [⟨⟨#[]⟩, kind, arg⟩], has := true } ∨ x = worker0 := fun x hx => by
    rcases List.mem_cons.1 hx with h | h
    · exact .inl h
    · exact .inr (List.eq_of_mem_replicate h)
  have hlen : (newS workers room mode ks kind arg).W.length = workers.toNat := by simp [newS]; omega
  have hL : ∀ ls ∈ (newS workers room mode ks kind arg).links, ls = List.replicate workers.toNat link0 := fun ls h => List.eq_of_mem_replicate h
  have hL0 : ∀ ls ∈ (newS workers room mode ks kind arg).links, ∀ l ∈ ls, l = link0 := fun ls h l hl => by
    rw [hL ls h] at hl
    exact List.eq_of_mem_replicate hl
  refine ⟨⟨?_, hc.1.1.1.1, hc.1.1.1.2, hc.1.1.2, hc.1.2, fun x hx => ?_, hp, fun x hx t ht => ?_⟩, rfl, ⟨?_, hc.1.1.1.1, hc.1.1.1.2, ?_, fun ls h => ?_, Nat.zero_le _⟩, ⟨fun ls h l hl => ?_, fun ls h l hl => ?_, fun ls h l hl => ?_, fun ls h l hl => ?_, fun x hx => ?_, fun x hx => ?_⟩, fun ls h l hl => ?_, Nat.le_refl _, fun i x hx hi => ?_⟩
  rotate_left 3
  · rw [hlen]; show (workers.toNat : Int) = workers; omega
  · rw [hlen]; simp [newS]
  · rw [hlen, hL ls h]; simp
  · rw [hL0 ls h l hl]; exact Nat.le_refl _
  · rw [hL0 ls h l hl]; exact Int.le_refl _
  · rw [hL0 ls h l hl]; exact ⟨Int.le_refl _, Int.le_refl _⟩
  · rw [hL0 ls h l hl]; exact Nat.le_refl _
  · rcases hW x hx with rfl | rfl <;> exact ⟨Int.le_refl _, Int.le_refl _⟩
  · rcases hW x hx with rfl | rfl <;> exact ⟨Int.le_refl _, Int.le_refl _⟩
  · rw [hL0 ls h l hl]; exact Nat.le_refl _
  rotate_left 1
  · simp [newS]; omega
  · rcases hW x hx with rfl | rfl
    · simp [newS]; omega
    · simp [newS, worker0]; omega
  · rcases hW x hx with rfl | rfl
    · simp at ht
      subst ht
      refine ⟨⟨hr.1, hr.2.1, hr.2.2.1, ?_⟩, hr.2.2.2⟩
      show (((⟨#[]⟩ : ByteArray).size : Nat) : Int) + arg ≤ 12
      have : (⟨#[]⟩ : ByteArray).size = 0 := rfl
      rw [this]; omega
    · simp [worker0] at ht
  · cases i with
    | zero => omega
    | succ j =>
      have : (List.replicate (workers.toNat - 1) worker0)[j]? = some x := by simpa [newS] using hx
      have := List.eq_of_mem_replicate (List.mem_of_getElem? this)
      subst this
      rfl

set_option maxHeartbeats 4000000 in
set_option maxRecDepth 100000 in
theorem made_calls (k r W V i b c wk rm md pk pa : Int) (a : Option Addr) (cap : Nat) (ks : List KindS) (w : World) (hk : KindsAt (fun _ => True) w (.slice a ks.length cap) ks) (hl : ks.length * 40 ≤ 140737488351232) (hl2 : ∀ k ∈ ks, k.kids.length * 16 ≤ 140737488351232) :
    Calls Tryz.prog 17 #[.agg (opV k r W V i b c wk rm md (.slice a ks.length cap) pk pa)] w fun e w' => ∃ xp wp, e = .returned (.tuple #[.agg #[.pointer xp, .pointer wp], .bool true]) ∧ TwinAt (fun g => w.heap.size ≤ g) w' xp wp 0 ∧ Below w.heap.size w w' := by
  have hkb : KindsAt (fun b => b < w.heap.size) w (.slice a ks.length cap) ks := hk.below.mono (fun _ h => h.2)
  have HP : Hid (∀ W, Below w.heap.size w W → KindsAt (fun b => b < w.heap.size) W (.slice a ks.length cap) ks) := fun W hW => hkb.kept (Kept.of_below hW (X := fun b => w.heap.size ≤ b) (fun _ _ h => h)) (fun b h1 h2 => by omega)
  have HPT : Hid (∀ W, Below w.heap.size w W → KindsAt (fun _ => True) W (.slice a ks.length cap) ks) := fun W hW => (HP.out W hW).mono (fun _ _ => trivial)
  have HL2 : Hid (∀ k ∈ ks, k.kids.length * 16 ≤ 140737488351232) := hl2
  have hln : ks.length ≤ 9223372036854775806 := by omega
  have hln2 : ∀ k ∈ ks, k.kids.length ≤ 9223372036854775806 := fun k hk => by have := hl2 k hk; omega
  obtain ⟨Z, hZ⟩ : ∃ Z, (w.alloc (Obj.cells (opV k r W V i b c wk rm md (.slice a ks.length cap) pk pa) 58)).alloc (Obj.cells #[.pointer none, .pointer none] 61) = Z := ⟨_, rfl⟩
  have hbZ : Below w.heap.size w Z := by rw [← hZ]; exact ((Below.refl _ _).alloc (Nat.le_refl _) _).alloc (by simp) _
  have HBO : Hid (BoxAt Z w.heap.size 58 (opV k r W V i b c wk rm md (.slice a ks.length cap) pk pa)) := by show BoxAt _ _ _ _; rw [← hZ]; exact (BoxAt.new w _ _).alloc _
  have HBT : Hid (BoxAt Z (w.heap.size + 1) 61 #[.pointer none, .pointer none]) := by show BoxAt _ _ _ _; rw [← hZ]; exact boxAt_at _ _ _ _ (by simp)
  have sZ : Z.heap.size = w.heap.size + 2 := by rw [← hZ]; simp
  have HBZ := hid_of hbZ
  have HLE : Hid (∀ W, KindsAt (fun _ => True) W (.slice a ks.length cap) ks → Calls Tryz.prog 34 #[.agg #[.slice a ks.length cap, .int .i64 pk, .int .i64 pa]] W fun e w' => ∃ BL K, e = .returned (.agg #[.slice (some ⟨BL, 0, none⟩) ks.length (ks.length + 8), .int .i64 pk, .int .i64 pa]) ∧ LentAt w' BL K ks ∧ W.heap.size ≤ BL ∧ BL < w'.heap.size ∧ Below W.heap.size W w') := fun W h => lent_calls a cap pk pa ks W h hl hl2
  -- what New answers
  have hnew : ∃ (er : Int) (isnil : Bool), (isnil = true → (∀ (a : Option Addr) (cap : Nat) (W : World), KindsAt (fun _ => True) W (.slice a ks.length cap) ks → Calls Tryz.prog 26 #[.agg #[.int .i64 wk, .int .i64 rm, .int .i64 md], .agg #[.slice a ks.length cap, .int .i64 pk, .int .i64 pa]] W (fun e w' => e = .returned (.tuple #[.pointer none, .int .i64 er]) ∧ Below W.heap.size W w')) ∧ (∀ (a : Option Addr) (cap : Nat) (W : World), KindsAt (fun _ => True) W (.slice a ks.length cap) ks → Calls Tryz.prog 36 #[.agg #[.int .i64 wk, .int .i64 rm, .int .i64 md], .agg #[.slice a ks.length cap, .int .i64 pk, .int .i64 pa]] W (fun e w' => e = .returned (.tuple #[.pointer none, .int .i64 er]) ∧ Below W.heap.size W w')))
      ∧ (isnil = false → Alone (newS wk rm md ks pk pa) 0 ∧ (∀ (a : Option Addr) (cap : Nat) (W : World), KindsAt (fun _ => True) W (.slice a ks.length cap) ks → Calls Tryz.prog 26 #[.agg #[.int .i64 wk, .int .i64 rm, .int .i64 md], .agg #[.slice a ks.length cap, .int .i64 pk, .int .i64 pa]] W (fun e w' => ∃ B, e = .returned (.tuple #[.pointer (some ⟨B, 0, none⟩), .int .i64 er]) ∧ XOK (fun b => W.heap.size ≤ b) w' B (newS wk rm md ks pk pa) ∧ Below W.heap.size W w')) ∧ (∀ (a : Option Addr) (cap : Nat) (W : World), KindsAt (fun _ => True) W (.slice a ks.length cap) ks → Calls Tryz.prog 36 #[.agg #[.int .i64 wk, .int .i64 rm, .int .i64 md], .agg #[.slice a ks.length cap, .int .i64 pk, .int .i64 pa]] W (fun e w' => ∃ B, e = .returned (.tuple #[.pointer (some ⟨B, 0, none⟩), .int .i64 er]) ∧ RefOK (fun b => W.heap.size ≤ b) w' B (newS wk rm md ks pk pa) ∧ Below W.heap.size W w'))) := by
    by_cases hbad : newE wk rm md ks pk pa = 0
    · have hc : cfgB wk rm md = true := by
        by_cases h : cfgB wk rm md = true
        · exact h
        · simp [newE, h] at hbad
      have hu : (unfoldS ks pk pa).1 = 0 := by simpa [newE, hc] using hbad
      exact ⟨0, false, (fun h => by cases h), fun _ => ⟨Alone.new hc hu, fun a cap W h => x_new_good a cap wk rm md pk pa ks W h hc hu, fun a cap W h => ref_new_good a cap wk rm md pk pa ks W h hc hu⟩⟩
    · exact ⟨newE wk rm md ks pk pa, true, fun _ => ⟨fun a cap W h => x_new_bad a cap wk rm md pk pa ks W h hln hln2 hbad, fun a cap W h => ref_new_bad a cap wk rm md pk pa ks W h hln hln2 hbad⟩, (fun h => by cases h)⟩
  obtain ⟨er, isnil, hn1, hn2⟩ := hnew
  have HN1 := hid_of hn1
  have HN2 := hid_of hn2
  clear hn1 hn2
  have bO := HBO.out
  have o10 := bO.cell (o := 10) rfl
  have o11 := bO.cell (o := 11) rfl
  have o12 := bO.cell (o := 12) rfl
  clear bO hkb hk hl2 hln hln2 hbZ
  go_enter Tryz.func17, Tryz.ntmps17
  go_upto_region 2 with (go_at_call 34; refine (HLE.out Z (HPT.out Z HBZ.out)).mono ?_; rintro e w1 ⟨BL, K, rfl, hlent, hBL, hBL', hb1⟩)
  obtain ⟨w2, hw2⟩ : ∃ w2, w1.alloc (Obj.cells #[.slice (some ⟨BL, 0, none⟩) ks.length (ks.length + 8), .int .i64 pk, .int .i64 pa] 42) = w2 := ⟨_, rfl⟩
  have bQ : BoxAt w2 w1.heap.size 42 #[.slice (some ⟨BL, 0, none⟩) ks.length (ks.length + 8), .int .i64 pk, .int .i64 pa] := by rw [← hw2]; exact BoxAt.new w1 _ _
  have hb2 : Below w1.heap.size w1 w2 := by rw [← hw2]; exact (Below.refl _ _).alloc (Nat.le_refl _) _
  have hs2 : w2.heap.size = w1.heap.size + 1 := by rw [← hw2]; simp
  rw [hw2]
  have hs1 := hb1.size
  have HQ2 := hid_of bQ
  have HKS : Hid (∀ j, j < ks.length → K j < w1.heap.size) := hlent.lt
  have HLENT2 : Hid (LentAt w2 BL K ks) := hlent.below hb2 (Nat.le_refl _)
  have hbZ2 : Below Z.heap.size Z w2 := hb1.trans (hb2.mono hs1)
  have HB2 : Hid (Below w.heap.size w w2) := HBZ.out.trans (hbZ2.mono (by omega))
  have HO2 : Hid (BoxAt w2 w.heap.size 58 (opV k r W V i b c wk rm md (.slice a ks.length cap) pk pa)) := HBO.out.below hbZ2 (by omega)
  have HT2 : Hid (BoxAt w2 (w.heap.size + 1) 61 #[.pointer none, .pointer none]) := HBT.out.below hbZ2 (by omega)
  have q0 := bQ.cell (o := 0) rfl
  have q1 := bQ.cell (o := 1) rfl
  have q2 := bQ.cell (o := 2) rfl
  have bo2 := HO2.out
  clear o10 o11 o12 bQ hlent hb1 hb2 hbZ2 hw2 hZ HBO HBT HLE
  have o7 := bo2.cell (o := 7) rfl
  have o8 := bo2.cell (o := 8) rfl
  have o9 := bo2.cell (o := 9) rfl
  clear bo2
  cases isnil
  · have HG := hid_of (HN2.out rfl)
    clear HN1 HN2
    go_upto_region 3 with (go_at_call 26; refine (HG.out.2.1 _ _ w2 (HLENT2.out.kinds.mono (fun _ _ => trivial))).mono ?_; rintro e w3 ⟨B1, rfl, hx3, hb3⟩)
    have HX3 := hid_of hx3
    clear hx3
    have hs3 := hb3.size
    have HB3 : Hid (Below w.heap.size w w3) := HB2.out.trans (hb3.mono (by omega))
    have HLENT3 : Hid (LentAt w3 BL K ks) := HLENT2.out.below hb3 (Nat.le_refl _)
    have HQ3 : Hid (BoxAt w3 w1.heap.size 42 #[.slice (some ⟨BL, 0, none⟩) ks.length (ks.length + 8), .int .i64 pk, .int .i64 pa]) := HQ2.out.below hb3 (by omega)
    have HO3 : Hid (BoxAt w3 w.heap.size 58 (opV k r W V i b c wk rm md (.slice a ks.length cap) pk pa)) := HO2.out.below hb3 (by omega)
    have HT3 : Hid (BoxAt w3 (w.heap.size + 1) 61 #[.pointer none, .pointer none]) := HT2.out.below hb3 (by omega)
    clear hb3 o7 o8 o9 q0 q1 q2
    have bq3 := HQ3.out
    have q0 := bq3.cell (o := 0) rfl
    have q1 := bq3.cell (o := 1) rfl
    have q2 := bq3.cell (o := 2) rfl
    have bo3 := HO3.out
    have o10 := bo3.cell (o := 10) rfl
    have o11 := bo3.cell (o := 11) rfl
    have o12 := bo3.cell (o := 12) rfl
    clear bq3 bo3
    go_upto_region 4 with (go_at_call 35; refine (kept_calls a cap pk pa ks BL w1.heap.size K w3 HLENT3.out ((HP.out w3 HB3.out).mono (fun b h => by omega)) hBL' HKS.out (by omega) hl HL2.out).mono ?_; rintro e w4 ⟨rfl, hk4⟩)
    have hs4 := hk4.size
    have HB4 : Hid (Below w.heap.size w w4) := HB3.out.trans (hk4.below (by omega) (fun g h => by omega))
    have HO4 : Hid (BoxAt w4 w.heap.size 58 (opV k r W V i b c wk rm md (.slice a ks.length cap) pk pa)) := HO3.out.kept hk4 (by omega)
    have HT4 : Hid (BoxAt w4 (w.heap.size + 1) 61 #[.pointer none, .pointer none]) := HT3.out.kept hk4 (by omega)
    have HX4 : Hid (XOK (fun g => w2.heap.size ≤ g ∧ g < w3.heap.size) w4 B1 (newS wk rm md ks pk pa)) := HX3.out.kept hk4 (fun g h1 h => ⟨by omega, h, h1⟩)
    clear hk4 q0 q1 q2 o10 o11 o12
    have bo4 := HO4.out
    have o7 := bo4.cell (o := 7) rfl
    have o8 := bo4.cell (o := 8) rfl
    have o9 := bo4.cell (o := 9) rfl
    have o10 := bo4.cell (o := 10) rfl
    have o11 := bo4.cell (o := 11) rfl
    have o12 := bo4.cell (o := 12) rfl
    clear bo4
    go_upto_region 5 with (go_at_call 36; refine (HG.out.2.2 a cap w4 (HPT.out w4 HB4.out)).mono ?_; rintro e w5 ⟨B2, rfl, hr5, hb5⟩)
    have HR5 := hid_of hr5
    have HX5 : Hid (XOK (fun g => w2.heap.size ≤ g ∧ g < w3.heap.size) w5 B1 (newS wk rm md ks pk pa)) := HX4.out.later hb5
    clear hr5
    have hs5 := hb5.size
    have HB5 : Hid (Below w.heap.size w w5) := HB4.out.trans (hb5.mono (by omega))
    have HT5 : Hid (BoxAt w5 (w.heap.size + 1) 61 #[.pointer none, .pointer none]) := HT4.out.below hb5 (by omega)
    clear hb5 o7 o8 o9 o10 o11 o12
    have bt5 := HT5.out
    have u0 := bt5.cell (o := 0) rfl
    have u1 := bt5.cell (o := 1) rfl
    have uf := bt5.frozen
    clear bt5
    go_wp2_with fail
    have hbz := box_putAll [.pointer (some ⟨B1, 0, none⟩), .pointer (some ⟨B2, 0, none⟩)] HT5.out rfl
    have hkz : Kept (· = w.heap.size + 1) w5 (putAll w5 (w.heap.size + 1) 0 [.pointer (some ⟨B1, 0, none⟩), .pointer (some ⟨B2, 0, none⟩)]) := kept_putAll (X := fun x => x = w.heap.size + 1) (.inl rfl) _ _ _ (Kept.refl _ _)
    have v0 := hbz.cell (o := 0) rfl
    have v1 := hbz.cell (o := 1) rfl
    refine bodyPost_ret (v := .tuple #[.agg #[.pointer (some ⟨B1, 0, none⟩), .pointer (some ⟨B2, 0, none⟩)], .bool true]) ?_ rfl ⟨_, _, rfl, ?_, ?_⟩
    · dsimp only [putAll] at v0 v1
      simp [results, Tryz.results17, go_sem, v0, v1]
    · exact .inr ⟨B1, B2, fun g => w2.heap.size ≤ g ∧ g < w3.heap.size, fun g => w4.heap.size ≤ g, newS wk rm md ks pk pa, rfl, rfl, HX5.out.kept hkz (fun g _ h => ⟨by omega, h⟩), HR5.out.kept hkz (fun g _ h => ⟨by omega, h⟩), fun g h => ⟨by omega, by omega⟩, fun g h => by omega, HG.out.1⟩
    · exact below_putAll (show w.heap.size ≤ w.heap.size + 1 by omega) [.pointer (some ⟨B1, 0, none⟩), .pointer (some ⟨B2, 0, none⟩)] 0 _ HB5.out
  · have HG := hid_of (HN1.out rfl)
    clear HN1 HN2
    go_upto_region 3 with (go_at_call 26; refine (HG.out.1 _ _ w2 (HLENT2.out.kinds.mono (fun _ _ => trivial))).mono ?_; rintro e w3 ⟨rfl, hb3⟩)
    have hs3 := hb3.size
    have HB3 : Hid (Below w.heap.size w w3) := HB2.out.trans (hb3.mono (by omega))
    have HLENT3 : Hid (LentAt w3 BL K ks) := HLENT2.out.below hb3 (Nat.le_refl _)
    have HQ3 : Hid (BoxAt w3 w1.heap.size 42 #[.slice (some ⟨BL, 0, none⟩) ks.length (ks.length + 8), .int .i64 pk, .int .i64 pa]) := HQ2.out.below hb3 (by omega)
    have HO3 : Hid (BoxAt w3 w.heap.size 58 (opV k r W V i b c wk rm md (.slice a ks.length cap) pk pa)) := HO2.out.below hb3 (by omega)
    have HT3 : Hid (BoxAt w3 (w.heap.size + 1) 61 #[.pointer none, .pointer none]) := HT2.out.below hb3 (by omega)
    clear hb3 o7 o8 o9 q0 q1 q2
    have bq3 := HQ3.out
    have q0 := bq3.cell (o := 0) rfl
    have q1 := bq3.cell (o := 1) rfl
    have q2 := bq3.cell (o := 2) rfl
    have bo3 := HO3.out
    have o10 := bo3.cell (o := 10) rfl
    have o11 := bo3.cell (o := 11) rfl
    have o12 := bo3.cell (o := 12) rfl
    clear bq3 bo3
    go_upto_region 4 with (go_at_call 35; refine (kept_calls a cap pk pa ks BL w1.heap.size K w3 HLENT3.out ((HP.out w3 HB3.out).mono (fun b h => by omega)) hBL' HKS.out (by omega) hl HL2.out).mono ?_; rintro e w4 ⟨rfl, hk4⟩)
    have hs4 := hk4.size
    have HB4 : Hid (Below w.heap.size w w4) := HB3.out.trans (hk4.below (by omega) (fun g h => by omega))
    have HO4 : Hid (BoxAt w4 w.heap.size 58 (opV k r W V i b c wk rm md (.slice a ks.length cap) pk pa)) := HO3.out.kept hk4 (by omega)
    have HT4 : Hid (BoxAt w4 (w.heap.size + 1) 61 #[.pointer none, .pointer none]) := HT3.out.kept hk4 (by omega)
    clear hk4 q0 q1 q2 o10 o11 o12
    have bo4 := HO4.out
    have o7 := bo4.cell (o := 7) rfl
    have o8 := bo4.cell (o := 8) rfl
    have o9 := bo4.cell (o := 9) rfl
    have o10 := bo4.cell (o := 10) rfl
    have o11 := bo4.cell (o := 11) rfl
    have o12 := bo4.cell (o := 12) rfl
    clear bo4
    go_upto_region 5 with (go_at_call 36; refine (HG.out.2 a cap w4 (HPT.out w4 HB4.out)).mono ?_; rintro e w5 ⟨rfl, hb5⟩)
    have hs5 := hb5.size
    have HB5 : Hid (Below w.heap.size w w5) := HB4.out.trans (hb5.mono (by omega))
    have HT5 : Hid (BoxAt w5 (w.heap.size + 1) 61 #[.pointer none, .pointer none]) := HT4.out.below hb5 (by omega)
    clear hb5 o7 o8 o9 o10 o11 o12
    have bt5 := HT5.out
    have u0 := bt5.cell (o := 0) rfl
    have u1 := bt5.cell (o := 1) rfl
    have uf := bt5.frozen
    clear bt5
    go_wp2_with fail
    have hbz := box_putAll [.pointer none, .pointer none] HT5.out rfl
    have hkz : Kept (· = w.heap.size + 1) w5 (putAll w5 (w.heap.size + 1) 0 [.pointer none, .pointer none]) := kept_putAll (X := fun x => x = w.heap.size + 1) (.inl rfl) _ _ _ (Kept.refl _ _)
    have v0 := hbz.cell (o := 0) rfl
    have v1 := hbz.cell (o := 1) rfl
    refine bodyPost_ret (v := .tuple #[.agg #[.pointer none, .pointer none], .bool true]) ?_ rfl ⟨_, _, rfl, .inl ⟨rfl, rfl⟩, ?_⟩
    · dsimp only [putAll] at v0 v1
      simp [results, Tryz.results17, go_sem, v0, v1]
    · exact below_putAll (show w.heap.size ≤ w.heap.size + 1 by omega) [.pointer none, .pointer none] 0 _ HB5.out
end Go.Proofs.YtdbbejedipfckaaGreatDoor
