/-
  gleanlaw.made: New of the program and of the document's answer: both answer alike, and begin alike.
-/
import Derived.Test.YteahdfeialekbaaGreatDoorTamed
import Derived.Test.YteahdfeialekbaaGreatDoorLinkOn
import Derived.Test.YteahdfeialekbaaGreatDoorBooks
import Derived.Test.YteahdfeialekbaaGreatDoorSame
namespace Go.Proofs.YteahdfeialekbaaGreatDoor
open Go Go.RowKit
theorem good_prog {ks : List KindS} {kind arg : Int} (hu : (unfoldS ks kind arg).1 = 0) : progB ks kind arg = true := by
 by_cases h : progB ks kind arg = true
 ·exact h
 ·simp [unfoldS, h] at hu
theorem Alone.new {workers room mode kind arg : Int} {ks : List KindS} (hc : cfgB workers room mode = true) (hu : (unfoldS ks kind arg).1 = 0) : Alone (newS workers room mode ks kind arg) 0 := by
 refine ⟨Steady.new hc (good_prog hu), rfl, fun ls h l hl m hm => ?_, fun m hm => by simp [newS] at hm⟩
 have h1 : ls = List.replicate workers.toNat link0 := List.eq_of_mem_replicate h
 rw [h1] at hl
 rw [List.eq_of_mem_replicate hl] at hm
 simp [link0] at hm
set_option maxHeartbeats 4000000 in
set_option maxRecDepth 100000 in
theorem made_calls (k r W V i b c wk rm md pk pa : Int) (a : Option Addr) (cap : Nat) (ks : List KindS) (w : World) (hk : KindsAt (fun _ => True) w (.slice a ks.length cap) ks) (hl : ks.length * 40 <= 140737488351232) (hl2 : ∀ k ∈ ks, k.kids.length * 16 <= 140737488351232) :
  Calls Tryz.prog 18 #[.agg (opV k r W V i b c wk rm md (.slice a ks.length cap) pk pa)] w fun e w' => ∃ xp wp, e = .returned (.tuple #[.agg #[.pointer xp, .pointer wp], .bool true]) /\ TwinAt (fun g => w.heap.size <= g) w' xp wp 0 /\ Below w.heap.size w w' := by
 have hkb : KindsAt (fun b => b < w.heap.size) w (.slice a ks.length cap) ks := hk.below.mono (fun _ h => h.2)
 have HP : Hid (∀ W, Below w.heap.size w W -> KindsAt (fun b => b < w.heap.size) W (.slice a ks.length cap) ks) := fun W hW => hkb.kept (Kept.of_below hW (X := fun b => w.heap.size <= b) (fun _ _ h => h)) (fun b h1 h2 => by omega)
 have HPT : Hid (∀ W, Below w.heap.size w W -> KindsAt (fun _ => True) W (.slice a ks.length cap) ks) := fun W hW => (HP.out W hW).mono (fun _ _ => trivial)
 have HL2 : Hid (∀ k ∈ ks, k.kids.length * 16 <= 140737488351232) := hl2
 have hln : ks.length <= 9223372036854775806 := by omega
 have hln2 : ∀ k ∈ ks, k.kids.length <= 9223372036854775806 := fun k hk => by have := hl2 k hk; omega
 obtain ⟨Z, hZ⟩ : ∃ Z, (w.alloc (Obj.cells (opV k r W V i b c wk rm md (.slice a ks.length cap) pk pa) 58)).alloc (Obj.cells #[.pointer none, .pointer none] 61) = Z := ⟨_, rfl⟩
 have hbZ : Below w.heap.size w Z := by rw [<- hZ]; exact ((Below.refl _ _).alloc (Nat.le_refl _) _).alloc (by simp) _
 have HBO : Hid (BoxAt Z w.heap.size 58 (opV k r W V i b c wk rm md (.slice a ks.length cap) pk pa)) := by show BoxAt _ _ _ _; rw [<- hZ]; exact (BoxAt.new w _ _).alloc _
 have HBT : Hid (BoxAt Z (w.heap.size + 1) 61 #[.pointer none, .pointer none]) := by show BoxAt _ _ _ _; rw [<- hZ]; exact boxAt_at _ _ _ _ (by simp)
 have sZ : Z.heap.size = w.heap.size + 2 := by rw [<- hZ]; simp
 have HBZ := hid_of hbZ
 have HLE : Hid (∀ W, KindsAt (fun _ => True) W (.slice a ks.length cap) ks -> Calls Tryz.prog 35 #[.agg #[.slice a ks.length cap, .int .i64 pk, .int .i64 pa]] W fun e w' => ∃ BL K, e = .returned (.agg #[.slice (some ⟨BL, 0, none⟩) ks.length (ks.length + 8), .int .i64 pk, .int .i64 pa]) /\ LentAt w' BL K ks /\ W.heap.size <= BL /\ BL < w'.heap.size /\ Below W.heap.size W w') := fun W h => lent_calls a cap pk pa ks W h hl hl2
 have hnew : ∃ (er : Int) (isnil : Bool), (isnil = true -> (∀ (a : Option Addr) (cap : Nat) (W : World), KindsAt (fun _ => True) W (.slice a ks.length cap) ks -> Calls Tryz.prog 27 #[.agg #[.int .i64 wk, .int .i64 rm, .int .i64 md], .agg #[.slice a ks.length cap, .int .i64 pk, .int .i64 pa]] W (fun e w' => e = .returned (.tuple #[.pointer none, .int .i64 er]) /\ Below W.heap.size W w')) /\ (∀ (a : Option Addr) (cap : Nat) (W : World), KindsAt (fun _ => True) W (.slice a ks.length cap) ks -> Calls Tryz.prog 37 #[.agg #[.int .i64 wk, .int .i64 rm, .int .i64 md], .agg #[.slice a ks.length cap, .int .i64 pk, .int .i64 pa]] W (fun e w' => e = .returned (.tuple #[.pointer none, .int .i64 er]) /\ Below W.heap.size W w')))
   /\ (isnil = false -> Alone (newS wk rm md ks pk pa) 0 /\ (∀ (a : Option Addr) (cap : Nat) (W : World), KindsAt (fun _ => True) W (.slice a ks.length cap) ks -> Calls Tryz.prog 27 #[.agg #[.int .i64 wk, .int .i64 rm, .int .i64 md], .agg #[.slice a ks.length cap, .int .i64 pk, .int .i64 pa]] W (fun e w' => ∃ B, e = .returned (.tuple #[.pointer (some ⟨B, 0, none⟩), .int .i64 er]) /\ XOK (fun b => W.heap.size <= b) w' B (newS wk rm md ks pk pa) /\ Below W.heap.size W w')) /\ (∀ (a : Option Addr) (cap : Nat) (W : World), KindsAt (fun _ => True) W (.slice a ks.length cap) ks -> Calls Tryz.prog 37 #[.agg #[.int .i64 wk, .int .i64 rm, .int .i64 md], .agg #[.slice a ks.length cap, .int .i64 pk, .int .i64 pa]] W (fun e w' => ∃ B, e = .returned (.tuple #[.pointer (some ⟨B, 0, none⟩), .int .i64 er]) /\ RefOK (fun b => W.heap.size <= b) w' B (newS wk rm md ks pk pa) /\ Below W.heap.size W w'))) := by
  by_cases hbad : newE wk rm md ks pk pa = 0
  ·have hc : cfgB wk rm md = true := by
    by_cases h : cfgB wk rm md = true
    ·exact h
    ·simp [newE, h] at hbad
   have hu : (unfoldS ks pk pa).1 = 0 := by simpa [newE, hc] using hbad
   exact ⟨0, false, (fun h => by cases h), fun _ => ⟨Alone.new hc hu, fun a cap W h => x_new_good a cap wk rm md pk pa ks W h hc hu, fun a cap W h => ref_new_good a cap wk rm md pk pa ks W h hc hu⟩⟩
  ·exact ⟨newE wk rm md ks pk pa, true, fun _ => ⟨fun a cap W h => x_new_bad a cap wk rm md pk pa ks W h hln hln2 hbad, fun a cap W h => ref_new_bad a cap wk rm md pk pa ks W h hln hln2 hbad⟩, (fun h => by cases h)⟩
 obtain ⟨er, isnil, hn1, hn2⟩ := hnew
 have HN1 := hid_of hn1
 have HN2 := hid_of hn2
 clear hn1 hn2
 have bO := HBO.out
 have o10 := bO.cell (o := 10) rfl
 have o11 := bO.cell (o := 11) rfl
 have o12 := bO.cell (o := 12) rfl
 clear bO hkb hk hl2 hln hln2 hbZ
 go_enter Tryz.func18, Tryz.ntmps18
 go_upto_region 2 with (go_at_call 35; refine (HLE.out Z (HPT.out Z HBZ.out)).mono ?_; rintro e w1 ⟨BL, K, rfl, hlent, hBL, hBL', hb1⟩)
 obtain ⟨w2, hw2⟩ : ∃ w2, w1.alloc (Obj.cells #[.slice (some ⟨BL, 0, none⟩) ks.length (ks.length + 8), .int .i64 pk, .int .i64 pa] 42) = w2 := ⟨_, rfl⟩
 have bQ : BoxAt w2 w1.heap.size 42 #[.slice (some ⟨BL, 0, none⟩) ks.length (ks.length + 8), .int .i64 pk, .int .i64 pa] := by rw [<- hw2]; exact BoxAt.new w1 _ _
 have hb2 : Below w1.heap.size w1 w2 := by rw [<- hw2]; exact (Below.refl _ _).alloc (Nat.le_refl _) _
 have hs2 : w2.heap.size = w1.heap.size + 1 := by rw [<- hw2]; simp
 rw [hw2]
 have hs1 := hb1.size
 have HQ2 := hid_of bQ
 have HKS : Hid (∀ j, j < ks.length -> K j < w1.heap.size) := hlent.lt
 have HLENT2 : Hid (LentAt w2 BL K ks) := hlent.below hb2 (Nat.le_refl _)
 have hbZ2 : Below Z.heap.size Z w2 := hb1.trans (hb2.mono hs1)
 have HB2 : Hid (Below w.heap.size w w2) := HBZ.out.trans (hbZ2.mono (by omega))
 have HO2 : Hid (BoxAt w2 w.heap.size 58 (opV k r W V i b c wk rm md (.slice a ks.length cap) pk pa)) := HBO.out.below hbZ2 (by omega)
 have HT2 : Hid (BoxAt w2 (w.heap.size + 1) 61 #[.pointer none, .pointer none]) := HBT.out.below hbZ2 (by omega)
 have q0 := bQ.cell (o := 0) rfl
 have q1 := bQ.cell (o := 1) rfl
 have q2 := bQ.cell (o := 2) rfl
 have bo2 := HO2.out
 clear o10 o11 o12 bQ hlent hb1 hb2 hbZ2 hw2 hZ HBO HBT HLE
 have o7 := bo2.cell (o := 7) rfl
 have o8 := bo2.cell (o := 8) rfl
 have o9 := bo2.cell (o := 9) rfl
 clear bo2
 cases isnil
 ·have HG := hid_of (HN2.out rfl)
  clear HN1 HN2
  go_upto_region 3 with (go_at_call 27; refine (HG.out.2.1 _ _ w2 (HLENT2.out.kinds.mono (fun _ _ => trivial))).mono ?_; rintro e w3 ⟨B1, rfl, hx3, hb3⟩)
  have HX3 := hid_of hx3
  clear hx3
  have hs3 := hb3.size
  have HB3 : Hid (Below w.heap.size w w3) := HB2.out.trans (hb3.mono (by omega))
  have HLENT3 : Hid (LentAt w3 BL K ks) := HLENT2.out.below hb3 (Nat.le_refl _)
  have HQ3 : Hid (BoxAt w3 w1.heap.size 42 #[.slice (some ⟨BL, 0, none⟩) ks.length (ks.length + 8), .int .i64 pk, .int .i64 pa]) := HQ2.out.below hb3 (by omega)
  have HO3 : Hid (BoxAt w3 w.heap.size 58 (opV k r W V i b c wk rm md (.slice a ks.length cap) pk pa)) := HO2.out.below hb3 (by omega)
  have HT3 : Hid (BoxAt w3 (w.heap.size + 1) 61 #[.pointer none, .pointer none]) := HT2.out.below hb3 (by omega)
  clear hb3 o7 o8 o9 q0 q1 q2
  have bq3 := HQ3.out
  have q0 := bq3.cell (o := 0) rfl
  have q1 := bq3.cell (o := 1) rfl
  have q2 := bq3.cell (o := 2) rfl
  have bo3 := HO3.out
  have o10 := bo3.cell (o := 10) rfl
  have o11 := bo3.cell (o := 11) rfl
  have o12 := bo3.cell (o := 12) rfl
  clear bq3 bo3
  go_upto_region 4 with (go_at_call 36; refine (kept_calls a cap pk pa ks BL w1.heap.size K w3 HLENT3.out ((HP.out w3 HB3.out).mono (fun b h => by omega)) hBL' HKS.out (by omega) hl HL2.out).mono ?_; rintro e w4 ⟨rfl, hk4⟩)
  have hs4 := hk4.size
  have HB4 : Hid (Below w.heap.size w w4) := HB3.out.trans (hk4.below (by omega) (fun g h => by omega))
  have HO4 : Hid (BoxAt w4 w.heap.size 58 (opV k r W V i b c wk rm md (.slice a ks.length cap) pk pa)) := HO3.out.kept hk4 (by omega)
  have HT4 : Hid (BoxAt w4 (w.heap.size + 1) 61 #[.pointer none, .pointer none]) := HT3.out.kept hk4 (by omega)
  have HX4 : Hid (XOK (fun g => w2.heap.size <= g /\ g < w3.heap.size) w4 B1 (newS wk rm md ks pk pa)) := HX3.out.kept hk4 (fun g h1 h => ⟨by omega, h, h1⟩)
  clear hk4 q0 q1 q2 o10 o11 o12
  have bo4 := HO4.out
  have o7 := bo4.cell (o := 7) rfl
  have o8 := bo4.cell (o := 8) rfl
  have o9 := bo4.cell (o := 9) rfl
  have o10 := bo4.cell (o := 10) rfl
  have o11 := bo4.cell (o := 11) rfl
  have o12 := bo4.cell (o := 12) rfl
  clear bo4
  go_upto_region 5 with (go_at_call 37; refine (HG.out.2.2 a cap w4 (HPT.out w4 HB4.out)).mono ?_; rintro e w5 ⟨B2, rfl, hr5, hb5⟩)
  have HR5 := hid_of hr5
  have HX5 : Hid (XOK (fun g => w2.heap.size <= g /\ g < w3.heap.size) w5 B1 (newS wk rm md ks pk pa)) := HX4.out.later hb5
  clear hr5
  have hs5 := hb5.size
  have HB5 : Hid (Below w.heap.size w w5) := HB4.out.trans (hb5.mono (by omega))
  have HT5 : Hid (BoxAt w5 (w.heap.size + 1) 61 #[.pointer none, .pointer none]) := HT4.out.below hb5 (by omega)
  clear hb5 o7 o8 o9 o10 o11 o12
  have bt5 := HT5.out
  have u0 := bt5.cell (o := 0) rfl
  have u1 := bt5.cell (o := 1) rfl
  have uf := bt5.frozen
  clear bt5
  go_wp2_with fail
  have hbz := box_putAll [.pointer (some ⟨B1, 0, none⟩), .pointer (some ⟨B2, 0, none⟩)] HT5.out rfl
  have hkz : Kept (· = w.heap.size + 1) w5 (putAll w5 (w.heap.size + 1) 0 [.pointer (some ⟨B1, 0, none⟩), .pointer (some ⟨B2, 0, none⟩)]) := kept_putAll (X := fun x => x = w.heap.size + 1) (.inl rfl) _ _ _ (Kept.refl _ _)
  have v0 := hbz.cell (o := 0) rfl
  have v1 := hbz.cell (o := 1) rfl
  refine bodyPost_ret (v := .tuple #[.agg #[.pointer (some ⟨B1, 0, none⟩), .pointer (some ⟨B2, 0, none⟩)], .bool true]) ?_ rfl ⟨_, _, rfl, ?_, ?_⟩
  ·dsimp only [putAll] at v0 v1
   simp [results, Tryz.results18, go_sem, v0, v1]
  ·exact .inr ⟨B1, B2, fun g => w2.heap.size <= g /\ g < w3.heap.size, fun g => w4.heap.size <= g, newS wk rm md ks pk pa, rfl, rfl, HX5.out.kept hkz (fun g _ h => ⟨by omega, h⟩), HR5.out.kept hkz (fun g _ h => ⟨by omega, h⟩), fun g h => ⟨by omega, by omega⟩, fun g h => by omega, HG.out.1⟩
  ·exact below_putAll (show w.heap.size <= w.heap.size + 1 by omega) [.pointer (some ⟨B1, 0, none⟩), .pointer (some ⟨B2, 0, none⟩)] 0 _ HB5.out
 ·have HG := hid_of (HN1.out rfl)
  clear HN1 HN2
  go_upto_region 3 with (go_at_call 27; refine (HG.out.1 _ _ w2 (HLENT2.out.kinds.mono (fun _ _ => trivial))).mono ?_; rintro e w3 ⟨rfl, hb3⟩)
  have hs3 := hb3.size
  have HB3 : Hid (Below w.heap.size w w3) := HB2.out.trans (hb3.mono (by omega))
  have HLENT3 : Hid (LentAt w3 BL K ks) := HLENT2.out.below hb3 (Nat.le_refl _)
  have HQ3 : Hid (BoxAt w3 w1.heap.size 42 #[.slice (some ⟨BL, 0, none⟩) ks.length (ks.length + 8), .int .i64 pk, .int .i64 pa]) := HQ2.out.below hb3 (by omega)
  have HO3 : Hid (BoxAt w3 w.heap.size 58 (opV k r W V i b c wk rm md (.slice a ks.length cap) pk pa)) := HO2.out.below hb3 (by omega)
  have HT3 : Hid (BoxAt w3 (w.heap.size + 1) 61 #[.pointer none, .pointer none]) := HT2.out.below hb3 (by omega)
  clear hb3 o7 o8 o9 q0 q1 q2
  have bq3 := HQ3.out
  have q0 := bq3.cell (o := 0) rfl
  have q1 := bq3.cell (o := 1) rfl
  have q2 := bq3.cell (o := 2) rfl
  have bo3 := HO3.out
  have o10 := bo3.cell (o := 10) rfl
  have o11 := bo3.cell (o := 11) rfl
  have o12 := bo3.cell (o := 12) rfl
  clear bq3 bo3
  go_upto_region 4 with (go_at_call 36; refine (kept_calls a cap pk pa ks BL w1.heap.size K w3 HLENT3.out ((HP.out w3 HB3.out).mono (fun b h => by omega)) hBL' HKS.out (by omega) hl HL2.out).mono ?_; rintro e w4 ⟨rfl, hk4⟩)
  have hs4 := hk4.size
  have HB4 : Hid (Below w.heap.size w w4) := HB3.out.trans (hk4.below (by omega) (fun g h => by omega))
  have HO4 : Hid (BoxAt w4 w.heap.size 58 (opV k r W V i b c wk rm md (.slice a ks.length cap) pk pa)) := HO3.out.kept hk4 (by omega)
  have HT4 : Hid (BoxAt w4 (w.heap.size + 1) 61 #[.pointer none, .pointer none]) := HT3.out.kept hk4 (by omega)
  clear hk4 q0 q1 q2 o10 o11 o12
  have bo4 := HO4.out
  have o7 := bo4.cell (o := 7) rfl
  have o8 := bo4.cell (o := 8) rfl
  have o9 := bo4.cell (o := 9) rfl
  have o10 := bo4.cell (o := 10) rfl
  have o11 := bo4.cell (o := 11) rfl
  have o12 := bo4.cell (o := 12) rfl
  clear bo4
  go_upto_region 5 with (go_at_call 37; refine (HG.out.2 a cap w4 (HPT.out w4 HB4.out)).mono ?_; rintro e w5 ⟨rfl, hb5⟩)
  have hs5 := hb5.size
  have HB5 : Hid (Below w.heap.size w w5) := HB4.out.trans (hb5.mono (by omega))
  have HT5 : Hid (BoxAt w5 (w.heap.size + 1) 61 #[.pointer none, .pointer none]) := HT4.out.below hb5 (by omega)
  clear hb5 o7 o8 o9 o10 o11 o12
  have bt5 := HT5.out
  have u0 := bt5.cell (o := 0) rfl
  have u1 := bt5.cell (o := 1) rfl
  have uf := bt5.frozen
  clear bt5
  go_wp2_with fail
  have hbz := box_putAll [.pointer none, .pointer none] HT5.out rfl
  have hkz : Kept (· = w.heap.size + 1) w5 (putAll w5 (w.heap.size + 1) 0 [.pointer none, .pointer none]) := kept_putAll (X := fun x => x = w.heap.size + 1) (.inl rfl) _ _ _ (Kept.refl _ _)
  have v0 := hbz.cell (o := 0) rfl
  have v1 := hbz.cell (o := 1) rfl
  refine bodyPost_ret (v := .tuple #[.agg #[.pointer none, .pointer none], .bool true]) ?_ rfl ⟨_, _, rfl, .inl ⟨rfl, rfl⟩, ?_⟩
  ·dsimp only [putAll] at v0 v1
   simp [results, Tryz.results18, go_sem, v0, v1]
  ·exact below_putAll (show w.heap.size <= w.heap.size + 1 by omega) [.pointer none, .pointer none] 0 _ HB5.out
set_option maxHeartbeats 2000000 in
theorem example_calls (w : World) :
  Calls Tryz.prog 34 #[] w fun e w' => ∃ B C, e = .returned (.agg #[.slice (some ⟨C, 0, none⟩) 1 1, .int .i64 0, .int .i64 2]) /\ BoxAt w' B 108 #[.int .i64 0, .int .i64 1, .int .i64 0, .int .i64 2] /\ BoxAt w' C 111 #[.int .i64 2, .int .i64 1, .slice (some ⟨B, 0, none⟩) 2 2] /\ Below w.heap.size w w' := by
 go_enter Tryz.func34, Tryz.ntmps34
 go_wp2_with fail
 obtain ⟨W, hW⟩ : ∃ W, ((w.alloc (Obj.cells #[.slice (some ⟨w.heap.size + 1 + 1, 0, none⟩) 1 1, .int .i64 0, .int .i64 2] 42)).alloc (Obj.cells #[.int .i64 0, .int .i64 1, .int .i64 0, .int .i64 2] 108)).alloc (Obj.cells #[.int .i64 2, .int .i64 1, .slice (some ⟨w.heap.size + 1, 0, none⟩) 2 2] 111) = W := ⟨_, rfl⟩
 have b0 : BoxAt W w.heap.size 42 #[.slice (some ⟨w.heap.size + 1 + 1, 0, none⟩) 1 1, .int .i64 0, .int .i64 2] := by rw [<- hW]; exact ((BoxAt.new w _ _).alloc _).alloc _
 have b1 : BoxAt W (w.heap.size + 1) 108 #[.int .i64 0, .int .i64 1, .int .i64 0, .int .i64 2] := by
  rw [<- hW]; have := (BoxAt.new (w.alloc (Obj.cells #[.slice (some ⟨w.heap.size + 1 + 1, 0, none⟩) 1 1, .int .i64 0, .int .i64 2] 42)) 108 #[.int .i64 0, .int .i64 1, .int .i64 0, .int .i64 2]).alloc (Obj.cells #[.int .i64 2, .int .i64 1, .slice (some ⟨w.heap.size + 1, 0, none⟩) 2 2] 111)
  simpa only [World.size_alloc] using this
 have b2 : BoxAt W (w.heap.size + 1 + 1) 111 #[.int .i64 2, .int .i64 1, .slice (some ⟨w.heap.size + 1, 0, none⟩) 2 2] := by
  rw [<- hW]; have := BoxAt.new ((w.alloc (Obj.cells #[.slice (some ⟨w.heap.size + 1 + 1, 0, none⟩) 1 1, .int .i64 0, .int .i64 2] 42)).alloc (Obj.cells #[.int .i64 0, .int .i64 1, .int .i64 0, .int .i64 2] 108)) 111 #[.int .i64 2, .int .i64 1, .slice (some ⟨w.heap.size + 1, 0, none⟩) 2 2]
  simpa only [World.size_alloc] using this
 have hb : Below w.heap.size w W := by rw [<- hW]; exact (((Below.refl _ _).alloc (Nat.le_refl _) _).alloc (by simp) _).alloc (by simp; omega) _
 rw [hW]
 clear hW
 have e0 := b0.cell (o := 0) rfl
 have e1 := b0.cell (o := 1) rfl
 have e2 := b0.cell (o := 2) rfl
 exact bodyPost_ret (v := .agg #[.slice (some ⟨w.heap.size + 1 + 1, 0, none⟩) 1 1, .int .i64 0, .int .i64 2]) (by simp [results, Tryz.results34, go_sem, e0, e1, e2]) rfl ⟨w.heap.size + 1, w.heap.size + 1 + 1, rfl, b1, b2, hb⟩
theorem ex_kinds {w : World} {B C : Nat} (hB : BoxAt w B 108 #[.int .i64 0, .int .i64 1, .int .i64 0, .int .i64 2]) (hC : BoxAt w C 111 #[.int .i64 2, .int .i64 1, .slice (some ⟨B, 0, none⟩) 2 2]) : KindsAt (fun _ => True) w (.slice (some ⟨C, 0, none⟩) exKs.length 1) exKs := by
 refine ⟨_, 1, rfl, fun j k hj => ?_⟩
 have hj0 : j = 0 := by
  rcases Nat.lt_or_ge j 1 with h | h
  ·omega
  ·rw [List.getElem?_eq_none (by simpa [exKs] using h)] at hj; cases hj
 subst hj0
 simp only [exKs, List.getElem?_cons_zero, Option.some.injEq] at hj
 subst hj
 refine ⟨C, 0, .slice (some ⟨B, 0, none⟩) 2 2, rfl, trivial, hC.lt, hC.cell rfl, hC.cell rfl, hC.cell rfl, some ⟨B, 0, none⟩, 2, rfl, fun i c hi => ?_⟩
 match i, hi with
 | 0, hi => simp only [List.getElem?_cons_zero, Option.some.injEq] at hi; subst hi; exact ⟨B, 0, rfl, trivial, hB.lt, hB.cell rfl, hB.cell rfl⟩
 | 1, hi => simp only [List.getElem?_cons_succ, List.getElem?_cons_zero, Option.some.injEq] at hi; subst hi; exact ⟨B, 0, rfl, trivial, hB.lt, hB.cell rfl, hB.cell rfl⟩
 | i + 2, hi => simp at hi
theorem ex_work : (workS (newS 2 3 1 exKs 0 2) 0).2 = 0 := by kernel_rfl
theorem ex_tasks : tasksS (workS (newS 2 3 1 exKs 0 2) 0).1 0 = ([⟨⟨#[48]⟩, 0, 1⟩, ⟨⟨#[49]⟩, 0, 0⟩], 0) := by kernel_rfl
set_option maxHeartbeats 2000000 in
set_option maxRecDepth 100000 in
theorem begun_calls (w : World) : Calls Tryz.prog 17 #[] w fun e w' => e = .returned (.bool true) /\ Below w.heap.size w w' := by
 have hu : (unfoldS exKs 0 2).1 = 0 := by rw [ex_unfold]
 have hal : Alone (newS 2 3 1 exKs 0 2) 0 := Alone.new rfl hu
 have HN : Hid (∀ (C : Nat) (W : World), KindsAt (fun _ => True) W (.slice (some ⟨C, 0, none⟩) exKs.length 1) exKs -> Calls Tryz.prog 27 #[.agg #[.int .i64 2, .int .i64 3, .int .i64 1], .agg #[.slice (some ⟨C, 0, none⟩) 1 1, .int .i64 0, .int .i64 2]] W fun e w' => ∃ B, e = .returned (.tuple #[.pointer (some ⟨B, 0, none⟩), .int .i64 0]) /\ XOK (fun b => W.heap.size <= b) w' B (newS 2 3 1 exKs 0 2) /\ Below W.heap.size W w') := fun C W h => x_new_good (some ⟨C, 0, none⟩) 1 2 3 1 0 2 exKs W h rfl hu
 have HW : Hid (∀ (F : Nat -> Prop) (B : Nat) (W : World), XOK F W B (newS 2 3 1 exKs 0 2) -> Calls Tryz.prog 33 #[.pointer (some ⟨B, 0, none⟩), .int .i64 0] W fun e w' => e = .returned (.int .i64 0) /\ XOK (fun b => F b \/ W.heap.size <= b) w' B (workS (newS 2 3 1 exKs 0 2) 0).1 /\ Kept F W w') := fun F B W h => by
  have := x_work_calls F B 0 (newS 2 3 1 exKs 0 2) 0 W h hal.fits hal.shaped hal.small (by omega) hal.known hal.going (Nat.zero_le _)
  rwa [ex_work] at this
 have HT : Hid (∀ (F : Nat -> Prop) (B : Nat) (W : World), XOK F W B (workS (newS 2 3 1 exKs 0 2) 0).1 -> Calls Tryz.prog 28 #[.pointer (some ⟨B, 0, none⟩), .int .i64 0] W fun e w' => ∃ g cap, e = .returned (.tuple #[.slice (some ⟨g, 0, none⟩) 2 cap, .int .i64 0]) /\ w'.cell? ⟨g, 0, none⟩ = some (.string ⟨#[48]⟩) /\ w'.cell? ⟨g, 2, none⟩ = some (.int .i64 1) /\ w'.cell? ⟨g, 3, none⟩ = some (.string ⟨#[49]⟩) /\ w'.cell? ⟨g, 5, none⟩ = some (.int .i64 0) /\ Below W.heap.size W w') := fun F B W h => by
  refine (x_tasks_calls F B (workS (newS 2 3 1 exKs 0 2) 0).1 0 W h (hal.work 0).fits).mono ?_
  rw [ex_tasks]
  rintro e w' ⟨v, rfl, hr, hb⟩
  obtain ⟨a, cap, rfl, hc⟩ := row_slice hr
  obtain ⟨g, rfl, -, -, c0⟩ := hc 0 _ rfl
  obtain ⟨g1, e1, -, -, c2⟩ := hc 2 _ rfl
  obtain ⟨g2, e2, -, -, c3⟩ := hc 3 _ rfl
  obtain ⟨g3, e3, -, -, c5⟩ := hc 5 _ rfl
  cases e1; cases e2; cases e3
  exact ⟨g, cap, rfl, c0, c2, c3, c5, hb⟩
 clear hu hal
 obtain ⟨s0, hs0⟩ : ∃ s0, newS 2 3 1 exKs 0 2 = s0 := ⟨_, rfl⟩
 rw [hs0] at HN HW HT
 clear hs0
 go_enter Tryz.func17, Tryz.ntmps17
 go_upto_region 6 with (first
  | (go_at_call 34; refine (example_calls w).mono ?_; rintro e w1 ⟨B, C, rfl, hB, hC, hb1⟩
     have HK := hid_of (ex_kinds hB hC)
     have HB1 := hid_of hb1
     clear hB hC hb1)
  | (go_at_call 27; refine (HN.out C w1 HK.out).mono ?_; rintro e w2 ⟨B1, rfl, hx2, hb2⟩
     have HX2 := hid_of hx2
     have HB2 := hid_of hb2
     clear hx2 hb2)
  | (go_at_call 33; refine (HW.out _ B1 w2 HX2.out).mono ?_; rintro e w3 ⟨rfl, hx3, hk3⟩
     have HX3 := hid_of hx3
     have HK3 := hid_of hk3
     clear hx3 hk3)
  | (go_at_call 28; refine (HT.out _ B1 w3 HX3.out).mono ?_; rintro e w4 ⟨g, cap, rfl, c0, c2, c3, c5, hb4⟩
     have HB4 := hid_of hb4
     clear hb4))
 go_wp2_with fail
 go_ret
 have e1 := HB1.out.size
 have e2 := HB2.out.size
 have e3 := HK3.out.size
 exact ⟨by simp, ((HB1.out.trans (HB2.out.mono e1)).trans (HK3.out.below (by omega) (fun k h => by omega))).trans (HB4.out.mono (by omega))⟩
end Go.Proofs.YteahdfeialekbaaGreatDoor
