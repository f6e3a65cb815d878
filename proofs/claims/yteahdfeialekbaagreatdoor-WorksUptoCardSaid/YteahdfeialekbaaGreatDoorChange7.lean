/-
  gleanlaw's twin.changes: one Drop on the program and on the document's answer: both answer alike, and stay alike.
-/
import Derived.Test.YteahdfeialekbaaGreatDoorTamed
import Derived.Test.YteahdfeialekbaaGreatDoorXDeliver
import Derived.Test.YteahdfeialekbaaGreatDoorRefCame5
namespace Go.Proofs.YteahdfeialekbaaGreatDoor
open Go Go.RowKit
set_option maxHeartbeats 4000000 in
set_option maxRecDepth 100000 in
theorem changes6_calls (F : Nat -> Prop) (xp wp : Option Addr) (m : Nat) (_hm : m <= 170000) (r W V i b c wk rm md pk pa : Int) (ka : Option Addr) (kn kc : Nat) (w : World) (ht : TwinAt F w xp wp m) :
  Calls Tryz.prog 22 #[.agg #[.pointer xp, .pointer wp], .agg (opV 6 r W V i b c wk rm md (.slice ka kn kc) pk pa)] w fun e w' => e = .returned (.bool true) /\ TwinAt (fun g => F g \/ w.heap.size <= g) w' xp wp (m + 1) /\ Kept F w w' := by
 obtain ⟨Z, hZ⟩ : ∃ Z, (w.alloc (Obj.cells #[.pointer xp, .pointer wp] 61)).alloc (Obj.cells (opV 6 r W V i b c wk rm md (.slice ka kn kc) pk pa) 58) = Z := ⟨_, rfl⟩
 have hbZ : Below w.heap.size w Z := by rw [<- hZ]; exact ((Below.refl _ _).alloc (Nat.le_refl _) _).alloc (by simp) _
 have bT : BoxAt Z w.heap.size 61 #[.pointer xp, .pointer wp] := by rw [<- hZ]; exact (BoxAt.new w _ _).alloc _
 have bO : BoxAt Z (w.heap.size + 1) 58 (opV 6 r W V i b c wk rm md (.slice ka kn kc) pk pa) := by rw [<- hZ]; exact boxAt_at _ _ _ _ (by simp)
 have sZ : Z.heap.size = w.heap.size + 2 := by rw [<- hZ]; simp
 have HBT := hid_of bT
 have HBO := hid_of bO
 have HBZ := hid_of hbZ
 have t0 := bT.cell (o := 0) rfl
 have o0 := bO.cell (o := 0) rfl
 have o4 := bO.cell (o := 4) rfl
 clear bT bO hbZ
 have HKZ : Hid (Kept (fun _ => False) w Z) := Kept.of_below HBZ.out (fun k h1 h2 => by omega)
 rcases ht with ⟨rfl, rfl⟩ | ⟨B1, B2, F1, F2, s, rfl, rfl, hx, hr, h12, h2, hal⟩
 ·have HW : Hid (Calls Tryz.prog 51 #[.pointer none, .int .i64 i] Z fun e w' => e = .returned (.int .i64 1) /\ Below Z.heap.size Z w') := x_drop_nil i Z
  go_enter Tryz.func22, Tryz.ntmps22
  go_wp2_with (first
   | (go_at_call 51; refine HW.out.mono ?_; rintro e w1 ⟨rfl, hb1⟩
      have t1 := (HBT.out.below hb1 (by omega)).cell (o := 1) rfl
      have o4' := (HBO.out.below hb1 (by omega)).cell (o := 4) rfl
      have HB1 := hid_of hb1
      clear hb1)
   | (go_at_call 52; refine ((ref_drop_nil i w1).mono fun e w' h => And.intro h.1 h.2.symm).mono ?_; rintro e w2 ⟨rfl, rfl⟩))
  go_ret
  exact ⟨rfl, .inl ⟨rfl, rfl⟩, HKZ.out.mono (fun _ _ h => h.elim) |>.later HB1.out (by omega)⟩
 ·have hxZ : XOK (fun g => F1 g /\ g < w.heap.size) Z B1 s := hx.kept HKZ.out (fun g hg h => ⟨fun h => h, h, hg⟩)
  have hrZ : RefOK (fun g => F2 g /\ g < w.heap.size) Z B2 s := hr.kept HKZ.out (fun g hg h => ⟨fun h => h, h, hg⟩)
  have HW : Hid (Calls Tryz.prog 51 #[.pointer (some ⟨B1, 0, none⟩), .int .i64 i] Z fun e w' => e = .returned (.int .i64 (dropS s i).2) /\ XOK (fun g => (F1 g /\ g < w.heap.size) \/ Z.heap.size <= g) w' B1 (dropS s i).1 /\ Kept (fun g => F1 g /\ g < w.heap.size) Z w') := x_drop_calls _ B1 s i Z hxZ hal.shaped hal.going
  have HR : Hid (∀ w1, RefOK (fun g => F2 g /\ g < w.heap.size) w1 B2 s -> Calls Tryz.prog 52 #[.pointer (some ⟨B2, 0, none⟩), .int .i64 i] w1 fun e w' => e = .returned (.int .i64 (dropS s i).2) /\ RefOK (fun g => (F2 g /\ g < w.heap.size) \/ w1.heap.size <= g) w' B2 (dropS s i).1 /\ Kept (fun g => F2 g /\ g < w.heap.size) w1 w') := fun w1 h => ref_drop_calls _ B2 s i w1 h hal.shaped
  have HRZ := hid_of hrZ
  have H12 := hid_of h12
  have H2 := hid_of h2
  have HAL := hid_of hal
  clear hx hr h12 h2 hal hxZ hrZ
  obtain ⟨er, her⟩ : ∃ er, (dropS s i).2 = er := ⟨_, rfl⟩
  obtain ⟨s', hs'⟩ : ∃ s', (dropS s i).1 = s' := ⟨_, rfl⟩
  rw [her, hs'] at HW
  rw [her, hs'] at HR
  have HS' := hid_of hs'
  clear her hs'
  go_enter Tryz.func22, Tryz.ntmps22
  go_wp2_with (first
   | (go_at_call 51; refine HW.out.mono ?_; rintro e w1 ⟨rfl, hx1, hk1⟩
      have t1 := (HBT.out.kept hk1 (by omega)).cell (o := 1) rfl
      have o4' := (HBO.out.kept hk1 (by omega)).cell (o := 4) rfl
      have HX1 := hid_of hx1
      have HK1 := hid_of hk1
      have HR1 : Hid (RefOK (fun g => F2 g /\ g < w.heap.size) w1 B2 s) := HRZ.out.kept hk1 (fun g hg h => ⟨fun h' => (H12.out g h'.1).2 h.1, h⟩)
      clear hx1 hk1)
   | (go_at_call 52; refine (HR.out w1 HR1.out).mono ?_; rintro e w2 ⟨rfl, hr2, hk2⟩
      have HR2 := hid_of hr2
      have HK2 := hid_of hk2
      clear hr2 hk2))
  go_ret
  have e1 := HK1.out.size
  have e2 := HK2.out.size
  refine ⟨by simp, .inr ⟨B1, B2, fun g => ((F1 g /\ g < w.heap.size) \/ Z.heap.size <= g) /\ g < w1.heap.size, fun g => (F2 g /\ g < w.heap.size) \/ w1.heap.size <= g, s', rfl, rfl, ?_, HR2.out, ?_, ?_, ?_⟩, ?_⟩
  ·exact HX1.out.kept HK2.out (fun g hg h => ⟨fun h' => (by
    rcases h with h | h
    ·exact (H12.out g h.1).2 h'.1
    ·omega), h, hg⟩)
  ·intro g h
   refine ⟨?_, fun h' => ?_⟩
   ·rcases h.1 with h' | h'
    ·exact .inl (H12.out g h'.1).1
    ·exact .inr (by omega)
   ·rcases h.1 with h1 | h1
    ·rcases h' with h' | h'
     ·exact (H12.out g h1.1).2 h'.1
     ·omega
    ·omega
  ·intro g h
   rcases h with h | h
   ·exact .inl (H2.out g h.1)
   ·exact .inr (by omega)
  ·rw [<- HS'.out]; exact HAL.out.drop i
  ·exact ((HKZ.out.mono (fun _ _ h => h.elim)).andThen HK1.out (fun g _ h => (H12.out g h.1).1)).andThen HK2.out (fun g _ h => H2.out g h.1)
set_option maxHeartbeats 4000000 in
set_option maxRecDepth 100000 in
theorem changes7_calls (F : Nat -> Prop) (xp wp : Option Addr) (m : Nat) (_hm : m <= 170000) (r W V i b c wk rm md pk pa : Int) (ka : Option Addr) (kn kc : Nat) (w : World) (ht : TwinAt F w xp wp m) :
  Calls Tryz.prog 22 #[.agg #[.pointer xp, .pointer wp], .agg (opV 7 r W V i b c wk rm md (.slice ka kn kc) pk pa)] w fun e w' => e = .returned (.bool true) /\ TwinAt (fun g => F g \/ w.heap.size <= g) w' xp wp (m + 1) /\ Kept F w w' := by
 obtain ⟨Z, hZ⟩ : ∃ Z, (w.alloc (Obj.cells #[.pointer xp, .pointer wp] 61)).alloc (Obj.cells (opV 7 r W V i b c wk rm md (.slice ka kn kc) pk pa) 58) = Z := ⟨_, rfl⟩
 have hbZ : Below w.heap.size w Z := by rw [<- hZ]; exact ((Below.refl _ _).alloc (Nat.le_refl _) _).alloc (by simp) _
 have bT : BoxAt Z w.heap.size 61 #[.pointer xp, .pointer wp] := by rw [<- hZ]; exact (BoxAt.new w _ _).alloc _
 have bO : BoxAt Z (w.heap.size + 1) 58 (opV 7 r W V i b c wk rm md (.slice ka kn kc) pk pa) := by rw [<- hZ]; exact boxAt_at _ _ _ _ (by simp)
 have sZ : Z.heap.size = w.heap.size + 2 := by rw [<- hZ]; simp
 have HBT := hid_of bT
 have HBO := hid_of bO
 have HBZ := hid_of hbZ
 have t0 := bT.cell (o := 0) rfl
 have o0 := bO.cell (o := 0) rfl
 have o4 := bO.cell (o := 4) rfl
 clear bT bO hbZ
 have HKZ : Hid (Kept (fun _ => False) w Z) := Kept.of_below HBZ.out (fun k h1 h2 => by omega)
 rcases ht with ⟨rfl, rfl⟩ | ⟨B1, B2, F1, F2, s, rfl, rfl, hx, hr, h12, h2, hal⟩
 ·have HW : Hid (Calls Tryz.prog 53 #[.pointer none, .int .i64 i] Z fun e w' => e = .returned (.int .i64 1) /\ Below Z.heap.size Z w') := x_twice_nil i Z
  go_enter Tryz.func22, Tryz.ntmps22
  go_wp2_with (first
   | (go_at_call 53; refine HW.out.mono ?_; rintro e w1 ⟨rfl, hb1⟩
      have t1 := (HBT.out.below hb1 (by omega)).cell (o := 1) rfl
      have o4' := (HBO.out.below hb1 (by omega)).cell (o := 4) rfl
      have HB1 := hid_of hb1
      clear hb1)
   | (go_at_call 54; refine ((ref_twice_nil i w1).mono fun e w' h => And.intro h.1 h.2.symm).mono ?_; rintro e w2 ⟨rfl, rfl⟩))
  go_ret
  exact ⟨rfl, .inl ⟨rfl, rfl⟩, HKZ.out.mono (fun _ _ h => h.elim) |>.later HB1.out (by omega)⟩
 ·have hxZ : XOK (fun g => F1 g /\ g < w.heap.size) Z B1 s := hx.kept HKZ.out (fun g hg h => ⟨fun h => h, h, hg⟩)
  have hrZ : RefOK (fun g => F2 g /\ g < w.heap.size) Z B2 s := hr.kept HKZ.out (fun g hg h => ⟨fun h => h, h, hg⟩)
  have HW : Hid (Calls Tryz.prog 53 #[.pointer (some ⟨B1, 0, none⟩), .int .i64 i] Z fun e w' => e = .returned (.int .i64 (twiceS s i).2) /\ XOK (fun g => (F1 g /\ g < w.heap.size) \/ Z.heap.size <= g) w' B1 (twiceS s i).1 /\ Kept (fun g => F1 g /\ g < w.heap.size) Z w') := x_twice_calls _ B1 s i Z hxZ hal.shaped hal.going
  have HR : Hid (∀ w1, RefOK (fun g => F2 g /\ g < w.heap.size) w1 B2 s -> Calls Tryz.prog 54 #[.pointer (some ⟨B2, 0, none⟩), .int .i64 i] w1 fun e w' => e = .returned (.int .i64 (twiceS s i).2) /\ RefOK (fun g => (F2 g /\ g < w.heap.size) \/ w1.heap.size <= g) w' B2 (twiceS s i).1 /\ Kept (fun g => F2 g /\ g < w.heap.size) w1 w') := fun w1 h => ref_twice_calls _ B2 s i w1 h hal.shaped
  have HRZ := hid_of hrZ
  have H12 := hid_of h12
  have H2 := hid_of h2
  have HAL := hid_of hal
  clear hx hr h12 h2 hal hxZ hrZ
  obtain ⟨er, her⟩ : ∃ er, (twiceS s i).2 = er := ⟨_, rfl⟩
  obtain ⟨s', hs'⟩ : ∃ s', (twiceS s i).1 = s' := ⟨_, rfl⟩
  rw [her, hs'] at HW
  rw [her, hs'] at HR
  have HS' := hid_of hs'
  clear her hs'
  go_enter Tryz.func22, Tryz.ntmps22
  go_wp2_with (first
   | (go_at_call 53; refine HW.out.mono ?_; rintro e w1 ⟨rfl, hx1, hk1⟩
      have t1 := (HBT.out.kept hk1 (by omega)).cell (o := 1) rfl
      have o4' := (HBO.out.kept hk1 (by omega)).cell (o := 4) rfl
      have HX1 := hid_of hx1
      have HK1 := hid_of hk1
      have HR1 : Hid (RefOK (fun g => F2 g /\ g < w.heap.size) w1 B2 s) := HRZ.out.kept hk1 (fun g hg h => ⟨fun h' => (H12.out g h'.1).2 h.1, h⟩)
      clear hx1 hk1)
   | (go_at_call 54; refine (HR.out w1 HR1.out).mono ?_; rintro e w2 ⟨rfl, hr2, hk2⟩
      have HR2 := hid_of hr2
      have HK2 := hid_of hk2
      clear hr2 hk2))
  go_ret
  have e1 := HK1.out.size
  have e2 := HK2.out.size
  refine ⟨by simp, .inr ⟨B1, B2, fun g => ((F1 g /\ g < w.heap.size) \/ Z.heap.size <= g) /\ g < w1.heap.size, fun g => (F2 g /\ g < w.heap.size) \/ w1.heap.size <= g, s', rfl, rfl, ?_, HR2.out, ?_, ?_, ?_⟩, ?_⟩
  ·exact HX1.out.kept HK2.out (fun g hg h => ⟨fun h' => (by
    rcases h with h | h
    ·exact (H12.out g h.1).2 h'.1
    ·omega), h, hg⟩)
  ·intro g h
   refine ⟨?_, fun h' => ?_⟩
   ·rcases h.1 with h' | h'
    ·exact .inl (H12.out g h'.1).1
    ·exact .inr (by omega)
   ·rcases h.1 with h1 | h1
    ·rcases h' with h' | h'
     ·exact (H12.out g h1.1).2 h'.1
     ·omega
    ·omega
  ·intro g h
   rcases h with h | h
   ·exact .inl (H2.out g h.1)
   ·exact .inr (by omega)
  ·rw [<- HS'.out]; exact HAL.out.twice i
  ·exact ((HKZ.out.mono (fun _ _ h => h.elim)).andThen HK1.out (fun g _ h => (H12.out g h.1).1)).andThen HK2.out (fun g _ h => H2.out g h.1)
end Go.Proofs.YteahdfeialekbaaGreatDoor
