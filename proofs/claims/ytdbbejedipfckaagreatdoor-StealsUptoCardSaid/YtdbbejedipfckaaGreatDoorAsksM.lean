/-
  gleanlaw's twin.changes: one Drop on the program and on the document's answer: both answer alike, and stay alike.
-/
import Derived.Test.YtdbbejedipfckaaGreatDoorTamed
import Derived.Test.YtdbbejedipfckaaGreatDoorStoreM
import Derived.Test.YtdbbejedipfckaaGreatDoorRefDrop
import Derived.Test.YtdbbejedipfckaaGreatDoorBookState
import Derived.Test.YtdbbejedipfckaaGreatDoorRefTick
import Derived.Test.YtdbbejedipfckaaGreatDoorChange4
import Derived.Test.YtdbbejedipfckaaGreatDoorRefMessages
import Derived.Test.YtdbbejedipfckaaGreatDoorXTasks
namespace Go.Proofs.YtdbbejedipfckaaGreatDoor
open Go Go.RowKit

set_option maxHeartbeats 4000000 in
set_option maxRecDepth 100000 in
theorem changes6_calls (F : Nat → Prop) (xp wp : Option Addr) (m : Nat) (_hm : m ≤ 900000) (r W V i b c wk rm md pk pa : Int) (ka : Option Addr) (kn kc : Nat) (w : World) (ht : TwinAt F w xp wp m) :
    Calls Tryz.prog 21 #[.agg #[.pointer xp, .pointer wp], .agg (opV 6 r W V i b c wk rm md (.slice ka kn kc) pk pa)] w fun e w' => e = .returned (.bool true) ∧ TwinAt (fun g => F g ∨ w.heap.size ≤ g) w' xp wp (m + 1) ∧ Kept F w w' := by
  obtain ⟨Z, hZ⟩ : ∃ Z, (w.alloc (Obj.cells #[.pointer xp, .pointer wp] 61)).alloc (Obj.cells (opV 6 r W V i b c wk rm md (.slice ka kn kc) pk pa) 58) = Z := ⟨_, rfl⟩
  have hbZ : Below w.heap.size w Z := by rw [← hZ]; exact ((Below.refl _ _).alloc (Nat.le_refl _) _).alloc (by simp) _
  have bT : BoxAt Z w.heap.size 61 #[.pointer xp, .pointer wp] := by rw [← hZ]; exact (BoxAt.new w _ _).alloc _
  have bO : BoxAt Z (w.heap.size + 1) 58 (opV 6 r W V i b c wk rm md (.slice ka kn kc) pk pa) := by rw [← hZ]; exact boxAt_at _ _ _ _ (by simp)
  have sZ : Z.heap.size = w.heap.size + 2 := by rw [← hZ]; simp
  have HBT := hid_of bT
  have HBO := hid_of bO
  have HBZ := hid_of hbZ
  have t0 := bT.cell (o := 0) rfl
  have o0 := bO.cell (o := 0) rfl
  have o4 := bO.cell (o := 4) rfl
  clear bT bO hbZ
  have HKZ : Hid (Kept (fun _ => False) w Z) := Kept.of_below HBZ.out (fun k h1 h2 => by omega)
  rcases ht with ⟨rfl, rfl⟩ | ⟨B1, B2, F1, F2, s, rfl, rfl, hx, hr, h12, h2, hal⟩
  · have HW : Hid (Calls Tryz.prog 50 #[.pointer none, .int .i64 i] Z fun e w' => e = .returned (.int .i64 1) ∧ Below Z.heap.size Z w') := x_drop_nil i Z
    go_enter Tryz.func21, Tryz.ntmps21
    go_wp2_with (first
      | (go_at_call 50; refine HW.out.mono ?_; rintro e w1 ⟨rfl, hb1⟩
         have t1 := (HBT.out.below hb1 (by omega)).cell (o := 1) rfl
         have o4' := (HBO.out.below hb1 (by omega)).cell (o := 4) rfl
         have HB1 := hid_of hb1
         clear hb1)
      | (go_at_call 51; refine ((ref_drop_nil i w1).mono fun e w' h => And.intro h.1 h.2.symm).mono ?_; rintro e w2 ⟨rfl, rfl⟩))
    go_ret
    exact ⟨rfl, .inl ⟨rfl, rfl⟩, HKZ.out.mono (fun _ _ h => h.elim) |>.later HB1.out (by omega)⟩
  · have hxZ : XOK (fun g => F1 g ∧ g < w.heap.size) Z B1 s := hx.kept HKZ.out (fun g hg h => ⟨fun h => h, h, hg⟩)
    have hrZ : RefOK (fun g => F2 g ∧ g < w.heap.size) Z B2 s := hr.kept HKZ.out (fun g hg h => ⟨fun h => h, h, hg⟩)
    have HW : Hid (Calls Tryz.prog 50 #[.pointer (some ⟨B1, 0, none⟩), .int .i64 i] Z fun e w' => e = .returned (.int .i64 (dropS s i).2) ∧ XOK (fun g => (F1 g ∧ g < w.heap.size) ∨ Z.heap.size ≤ g) w' B1 (dropS s i).1 ∧ Kept (fun g => F1 g ∧ g < w.heap.size) Z w') := x_drop_calls _ B1 s i Z hxZ hal.shaped hal.going
    have HR : Hid (∀ w1, RefOK (fun g => F2 g ∧ g < w.heap.size) w1 B2 s → Calls Tryz.prog 51 #[.pointer (some ⟨B2, 0, none⟩), .int .i64 i] w1 fun e w' => e = .returned (.int .i64 (dropS s i).2) ∧ RefOK (fun g => (F2 g ∧ g < w.heap.size) ∨ w1.heap.size ≤ g) w' B2 (dropS s i).1 ∧ Kept (fun g => F2 g ∧ g < w.heap.size) w1 w') := fun w1 h => ref_drop_calls _ B2 s i w1 h hal.shaped
    have HRZ := hid_of hrZ
    have H12 := hid_of h12
    have H2 := hid_of h2
    have HAL := hid_of hal
    clear hx hr h12 h2 hal hxZ hrZ
    obtain ⟨er, her⟩ : ∃ er, (dropS s i).2 = er := ⟨_, rfl⟩
    obtain ⟨s', hs'⟩ : ∃ s', (dropS s i).1 = s' := ⟨_, rfl⟩
    rw [her, hs'] at HW
    rw [her, hs'] at HR
    have HS' := hid_of hs'
    clear her hs'
    go_enter Tryz.func21, Tryz.ntmps21
    go_wp2_with (first
      | (go_at_call 50; refine HW.out.mono ?_; rintro e w1 ⟨rfl, hx1, hk1⟩
         have t1 := (HBT.out.kept hk1 (by omega)).cell (o := 1) rfl
         have o4' := (HBO.out.kept hk1 (by omega)).cell (o := 4) rfl
         have HX1 := hid_of hx1
         have HK1 := hid_of hk1
         have HR1 : Hid (RefOK (fun g => F2 g ∧ g < w.heap.size) w1 B2 s) := HRZ.out.kept hk1 (fun g hg h => ⟨fun h' => (H12.out g h'.1).2 h.1, h⟩)
         clear hx1 hk1)
      | (go_at_call 51; refine (HR.out w1 HR1.out).mono ?_; rintro e w2 ⟨rfl, hr2, hk2⟩
         have HR2 := hid_of hr2
         have HK2 := hid_of hk2
         clear hr2 hk2))
    go_ret
    have e1 := HK1.out.size
    have e2 := HK2.out.size
    refine ⟨by simp, .inr ⟨B1, B2, fun g => ((F1 g ∧ g < w.heap.size) ∨ Z.heap.size ≤ g) ∧ g < w1.heap.size, fun g => (F2 g ∧ g < w.heap.size) ∨ w1.heap.size ≤ g, s', rfl, rfl, ?_, HR2.out, ?_, ?_, ?_⟩, ?_⟩
    · exact HX1.out.kept HK2.out (fun g hg h => ⟨fun h' => (by
        rcases h with h | h
        · exact (H12.out g h.1).2 h'.1
        · omega), h, hg⟩)
    · intro g h
      refine ⟨?_, fun h' => ?_⟩
      · rcases h.1 with h' | h'
        · exact .inl (H12.out g h'.1).1
        · exact .inr (by omega)
      · rcases h.1 with h1 | h1
        · rcases h' with h' | h'
          · exact (H12.out g h1.1).2 h'.1
          · omega
        · omega
    · intro g h
      rcases h with h | h
      · exact .inl (H2.out g h.1)
      · exact .inr (by omega)
    · rw [← HS'.out]; exact HAL.out.drop i
    · exact ((HKZ.out.mono (fun _ _ h => h.elim)).andThen HK1.out (fun g _ h => (H12.out g h.1).1)).andThen HK2.out (fun g _ h => H2.out g h.1)
end Go.Proofs.YtdbbejedipfckaaGreatDoor
/-
  gleanlaw's twin.changes: one Twice on the program and on the document's answer: both answer alike, and stay alike.
-/
namespace Go.Proofs.YtdbbejedipfckaaGreatDoor
open Go Go.RowKit

set_option maxHeartbeats 4000000 in
set_option maxRecDepth 100000 in
theorem changes7_calls (F : Nat → Prop) (xp wp : Option Addr) (m : Nat) (_hm : m ≤ 900000) (r W V i b c wk rm md pk pa : Int) (ka : Option Addr) (kn kc : Nat) (w : World) (ht : TwinAt F w xp wp m) :
    Calls Tryz.prog 21 #[.agg #[.pointer xp, .pointer wp], .agg (opV 7 r W V i b c wk rm md (.slice ka kn kc) pk pa)] w fun e w' => e = .returned (.bool true) ∧ TwinAt (fun g => F g ∨ w.heap.size ≤ g) w' xp wp (m + 1) ∧ Kept F w w' := by
  obtain ⟨Z, hZ⟩ : ∃ Z, (w.alloc (Obj.cells #[.pointer xp, .pointer wp] 61)).alloc (Obj.cells (opV 7 r W V i b c wk rm md (.slice ka kn kc) pk pa) 58) = Z := ⟨_, rfl⟩
  have hbZ : Below w.heap.size w Z := by rw [← hZ]; exact ((Below.refl _ _).alloc (Nat.le_refl _) _).alloc (by simp) _
  have bT : BoxAt Z w.heap.size 61 #[.pointer xp, .pointer wp] := by rw [← hZ]; exact (BoxAt.new w _ _).alloc _
  have bO : BoxAt Z (w.heap.size + 1) 58 (opV 7 r W V i b c wk rm md (.slice ka kn kc) pk pa) := by rw [← hZ]; exact boxAt_at _ _ _ _ (by simp)
  have sZ : Z.heap.size = w.heap.size + 2 := by rw [← hZ]; simp
  have HBT := hid_of bT
  have HBO := hid_of bO
  have HBZ := hid_of hbZ
  have t0 := bT.cell (o := 0) rfl
  have o0 := bO.cell (o := 0) rfl
  have o4 := bO.cell (o := 4) rfl
  clear bT bO hbZ
  have HKZ : Hid (Kept (fun _ => False) w Z) := Kept.of_below HBZ.out (fun k h1 h2 => by omega)
  rcases ht with ⟨rfl, rfl⟩ | ⟨B1, B2, F1, F2, s, rfl, rfl, hx, hr, h12, h2, hal⟩
  · have HW : Hid (Calls Tryz.prog 52 #[.pointer none, .int .i64 i] Z fun e w' => e = .returned (.int .i64 1) ∧ Below Z.heap.size Z w') := x_twice_nil i Z
    go_enter Tryz.func21, Tryz.ntmps21
    go_wp2_with (first
      | (go_at_call 52; refine HW.out.mono ?_; rintro e w1 ⟨rfl, hb1⟩
         have t1 := (HBT.out.below hb1 (by omega)).cell (o := 1) rfl
         have o4' := (HBO.out.below hb1 (by omega)).cell (o := 4) rfl
         have HB1 := hid_of hb1
         clear hb1)
      | (go_at_call 53; refine ((ref_twice_nil i w1).mono fun e w' h => And.intro h.1 h.2.symm).mono ?_; rintro e w2 ⟨rfl, rfl⟩))
    go_ret
    exact ⟨rfl, .inl ⟨rfl, rfl⟩, HKZ.out.mono (fun _ _ h => h.elim) |>.later HB1.out (by omega)⟩
  · have hxZ : XOK (fun g => F1 g ∧ g < w.heap.size) Z B1 s := hx.kept HKZ.out (fun g hg h => ⟨fun h => h, h, hg⟩)
    have hrZ : RefOK (fun g => F2 g ∧ g < w.heap.size) Z B2 s := hr.kept HKZ.out (fun g hg h => ⟨fun h => h, h, hg⟩)
    have HW : Hid (Calls Tryz.prog 52 #[.pointer (some ⟨B1, 0, none⟩), .int .i64 i] Z fun e w' => e = .returned (.int .i64 (twiceS s i).2) ∧ XOK (fun g => (F1 g ∧ g < w.heap.size) ∨ Z.heap.size ≤ g) w' B1 (twiceS s i).1 ∧ Kept (fun g => F1 g ∧ g < w.heap.size) Z w') := x_twice_calls _ B1 s i Z hxZ hal.shaped hal.going
    have HR : Hid (∀ w1, RefOK (fun g => F2 g ∧ g < w.heap.size) w1 B2 s → Calls Tryz.prog 53 #[.pointer (some ⟨B2, 0, none⟩), .int .i64 i] w1 fun e w' => e = .returned (.int .i64 (twiceS s i).2) ∧ RefOK (fun g => (F2 g ∧ g < w.heap.size) ∨ w1.heap.size ≤ g) w' B2 (twiceS s i).1 ∧ Kept (fun g => F2 g ∧ g < w.heap.size) w1 w') := fun w1 h => ref_twice_calls _ B2 s i w1 h hal.shaped
    have HRZ := hid_of hrZ
    have H12 := hid_of h12
    have H2 := hid_of h2
    have HAL := hid_of hal
    clear hx hr h12 h2 hal hxZ hrZ
    obtain ⟨er, her⟩ : ∃ er, (twiceS s i).2 = er := ⟨_, rfl⟩
    obtain ⟨s', hs'⟩ : ∃ s', (twiceS s i).1 = s' := ⟨_, rfl⟩
    rw [her, hs'] at HW
    rw [her, hs'] at HR
    have HS' := hid_of hs'
    clear her hs'
    go_enter Tryz.func21, Tryz.ntmps21
    go_wp2_with (first
      | (go_at_call 52; refine HW.out.mono ?_; rintro e w1 ⟨rfl, hx1, hk1⟩
         have t1 := (HBT.out.kept hk1 (by omega)).cell (o := 1) rfl
         have o4' := (HBO.out.kept hk1 (by omega)).cell (o := 4) rfl
         have HX1 := hid_of hx1
         have HK1 := hid_of hk1
         have HR1 : Hid (RefOK (fun g => F2 g ∧ g < w.heap.size) w1 B2 s) := HRZ.out.kept hk1 (fun g hg h => ⟨fun h' => (H12.out g h'.1).2 h.1, h⟩)
         clear hx1 hk1)
      | (go_at_call 53; refine (HR.out w1 HR1.out).mono ?_; rintro e w2 ⟨rfl, hr2, hk2⟩
         have HR2 := hid_of hr2
         have HK2 := hid_of hk2
         clear hr2 hk2))
    go_ret
    have e1 := HK1.out.size
    have e2 := HK2.out.size
    refine ⟨by simp, .inr ⟨B1, B2, fun g => ((F1 g ∧ g < w.heap.size) ∨ Z.heap.size ≤ g) ∧ g < w1.heap.size, fun g => (F2 g ∧ g < w.heap.size) ∨ w1.heap.size ≤ g, s', rfl, rfl, ?_, HR2.out, ?_, ?_, ?_⟩, ?_⟩
    · exact HX1.out.kept HK2.out (fun g hg h => ⟨fun h' => (by
        rcases h with h | h
        · exact (H12.out g h.1).2 h'.1
        · omega), h, hg⟩)
    · intro g h
      refine ⟨?_, fun h' => ?_⟩
      · rcases h.1 with h' | h'
        · exact .inl (H12.out g h'.1).1
        · exact .inr (by omega)
      · rcases h.1 with h1 | h1
        · rcases h' with h' | h'
          · exact (H12.out g h1.1).2 h'.1
          · omega
        · omega
    · intro g h
      rcases h with h | h
      · exact .inl (H2.out g h.1)
      · exact .inr (by omega)
    · rw [← HS'.out]; exact HAL.out.twice i
    · exact ((HKZ.out.mono (fun _ _ h => h.elim)).andThen HK1.out (fun g _ h => (H12.out g h.1).1)).andThen HK2.out (fun g _ h => H2.out g h.1)
end Go.Proofs.YtdbbejedipfckaaGreatDoor
/-
  gleanlaw's twin.changes: one Tick on the program and on the document's answer: both answer alike, and stay alike.
-/
namespace Go.Proofs.YtdbbejedipfckaaGreatDoor
open Go Go.RowKit

set_option maxHeartbeats 4000000 in
set_option maxRecDepth 100000 in
theorem changes8_calls (F : Nat → Prop) (xp wp : Option Addr) (m : Nat) (hm : m ≤ 900000) (r W V i b c wk rm md pk pa : Int) (ka : Option Addr) (kn kc : Nat) (w : World) (ht : TwinAt F w xp wp m) :
    Calls Tryz.prog 21 #[.agg #[.pointer xp, .pointer wp], .agg (opV 8 r W V i b c wk rm md (.slice ka kn kc) pk pa)] w fun e w' => e = .returned (.bool true) ∧ TwinAt (fun g => F g ∨ w.heap.size ≤ g) w' xp wp (m + 1) ∧ Kept F w w' := by
  obtain ⟨Z, hZ⟩ : ∃ Z, (w.alloc (Obj.cells #[.pointer xp, .pointer wp] 61)).alloc (Obj.cells (opV 8 r W V i b c wk rm md (.slice ka kn kc) pk pa) 58) = Z := ⟨_, rfl⟩
  have hbZ : Below w.heap.size w Z := by rw [← hZ]; exact ((Below.refl _ _).alloc (Nat.le_refl _) _).alloc (by simp) _
  have bT : BoxAt Z w.heap.size 61 #[.pointer xp, .pointer wp] := by rw [← hZ]; exact (BoxAt.new w _ _).alloc _
  have bO : BoxAt Z (w.heap.size + 1) 58 (opV 8 r W V i b c wk rm md (.slice ka kn kc) pk pa) := by rw [← hZ]; exact boxAt_at _ _ _ _ (by simp)
  have sZ : Z.heap.size = w.heap.size + 2 := by rw [← hZ]; simp
  have HBT := hid_of bT
  have HBO := hid_of bO
  have HBZ := hid_of hbZ
  have t0 := bT.cell (o := 0) rfl
  have o0 := bO.cell (o := 0) rfl
  have o2 := bO.cell (o := 2) rfl
  clear bT bO hbZ
  have HKZ : Hid (Kept (fun _ => False) w Z) := Kept.of_below HBZ.out (fun k h1 h2 => by omega)
  rcases ht with ⟨rfl, rfl⟩ | ⟨B1, B2, F1, F2, s, rfl, rfl, hx, hr, h12, h2, hal⟩
  · have HW : Hid (Calls Tryz.prog 54 #[.pointer none, .int .i64 W] Z fun e w' => e = .returned (.int .i64 1) ∧ Below Z.heap.size Z w') := x_tick_nil W Z
    go_enter Tryz.func21, Tryz.ntmps21
    go_wp2_with (first
      | (go_at_call 54; refine HW.out.mono ?_; rintro e w1 ⟨rfl, hb1⟩
         have t1 := (HBT.out.below hb1 (by omega)).cell (o := 1) rfl
         have o2' := (HBO.out.below hb1 (by omega)).cell (o := 2) rfl
         have HB1 := hid_of hb1
         clear hb1)
      | (go_at_call 55; refine ((ref_tick_nil W w1).mono fun e w' h => And.intro h.1 h.2.symm).mono ?_; rintro e w2 ⟨rfl, rfl⟩))
    go_ret
    exact ⟨rfl, .inl ⟨rfl, rfl⟩, HKZ.out.mono (fun _ _ h => h.elim) |>.later HB1.out (by omega)⟩
  · have hxZ : XOK (fun g => F1 g ∧ g < w.heap.size) Z B1 s := hx.kept HKZ.out (fun g hg h => ⟨fun h => h, h, hg⟩)
    have hrZ : RefOK (fun g => F2 g ∧ g < w.heap.size) Z B2 s := hr.kept HKZ.out (fun g hg h => ⟨fun h => h, h, hg⟩)
    have HW : Hid (Calls Tryz.prog 54 #[.pointer (some ⟨B1, 0, none⟩), .int .i64 W] Z fun e w' => e = .returned (.int .i64 (tickS s W).2) ∧ XOK (fun g => (F1 g ∧ g < w.heap.size) ∨ Z.heap.size ≤ g) w' B1 (tickS s W).1 ∧ Kept (fun g => F1 g ∧ g < w.heap.size) Z w') := x_tick_calls _ B1 m s W Z hxZ hal.fits hal.shaped hal.small (by omega) hal.going
    have HR : Hid (∀ w1, RefOK (fun g => F2 g ∧ g < w.heap.size) w1 B2 s → Calls Tryz.prog 55 #[.pointer (some ⟨B2, 0, none⟩), .int .i64 W] w1 fun e w' => e = .returned (.int .i64 (tickS s W).2) ∧ RefOK (fun g => (F2 g ∧ g < w.heap.size) ∨ w1.heap.size ≤ g) w' B2 (tickS s W).1 ∧ Kept (fun g => F2 g ∧ g < w.heap.size) w1 w') := fun w1 h => ref_tick_calls _ B2 m s W w1 h hal.shaped hal.small
    have HRZ := hid_of hrZ
    have H12 := hid_of h12
    have H2 := hid_of h2
    have HAL := hid_of hal
    clear hx hr h12 h2 hal hxZ hrZ
    obtain ⟨er, her⟩ : ∃ er, (tickS s W).2 = er := ⟨_, rfl⟩
    obtain ⟨s', hs'⟩ : ∃ s', (tickS s W).1 = s' := ⟨_, rfl⟩
    rw [her, hs'] at HW
    rw [her, hs'] at HR
    have HS' := hid_of hs'
    clear her hs'
    go_enter Tryz.func21, Tryz.ntmps21
    go_wp2_with (first
      | (go_at_call 54; refine HW.out.mono ?_; rintro e w1 ⟨rfl, hx1, hk1⟩
         have t1 := (HBT.out.kept hk1 (by omega)).cell (o := 1) rfl
         have o2' := (HBO.out.kept hk1 (by omega)).cell (o := 2) rfl
         have HX1 := hid_of hx1
         have HK1 := hid_of hk1
         have HR1 : Hid (RefOK (fun g => F2 g ∧ g < w.heap.size) w1 B2 s) := HRZ.out.kept hk1 (fun g hg h => ⟨fun h' => (H12.out g h'.1).2 h.1, h⟩)
         clear hx1 hk1)
      | (go_at_call 55; refine (HR.out w1 HR1.out).mono ?_; rintro e w2 ⟨rfl, hr2, hk2⟩
         have HR2 := hid_of hr2
         have HK2 := hid_of hk2
         clear hr2 hk2))
    go_ret
    have e1 := HK1.out.size
    have e2 := HK2.out.size
    refine ⟨by simp, .inr ⟨B1, B2, fun g => ((F1 g ∧ g < w.heap.size) ∨ Z.heap.size ≤ g) ∧ g < w1.heap.size, fun g => (F2 g ∧ g < w.heap.size) ∨ w1.heap.size ≤ g, s', rfl, rfl, ?_, HR2.out, ?_, ?_, ?_⟩, ?_⟩
    · exact HX1.out.kept HK2.out (fun g hg h => ⟨fun h' => (by
        rcases h with h | h
        · exact (H12.out g h.1).2 h'.1
        · omega), h, hg⟩)
    · intro g h
      refine ⟨?_, fun h' => ?_⟩
      · rcases h.1 with h' | h'
        · exact .inl (H12.out g h'.1).1
        · exact .inr (by omega)
      · rcases h.1 with h1 | h1
        · rcases h' with h' | h'
          · exact (H12.out g h1.1).2 h'.1
          · omega
        · omega
    · intro g h
      rcases h with h | h
      · exact .inl (H2.out g h.1)
      · exact .inr (by omega)
    · rw [← HS'.out]; exact HAL.out.tick W
    · exact ((HKZ.out.mono (fun _ _ h => h.elim)).andThen HK1.out (fun g _ h => (H12.out g h.1).1)).andThen HK2.out (fun g _ h => H2.out g h.1)
end Go.Proofs.YtdbbejedipfckaaGreatDoor
/-
  gleanlaw's twin.changes: one step of any kind that changes something, on the program and on the document's answer.
-/
namespace Go.Proofs.YtdbbejedipfckaaGreatDoor
open Go Go.RowKit

/-- The kinds of steps that change something, as far as they are built. -/
def Changing (k : Int) : Prop := k = 2 ∨ k = 4 ∨ k = 6 ∨ k = 7 ∨ k = 8
theorem changes_calls (k : Int) (hk : Changing k) (F : Nat → Prop) (xp wp : Option Addr) (m : Nat) (hm : m ≤ 900000) (r W V i b c wk rm md pk pa : Int) (ka : Option Addr) (kn kc : Nat) (w : World) (ht : TwinAt F w xp wp m) :
    Calls Tryz.prog 21 #[.agg #[.pointer xp, .pointer wp], .agg (opV k r W V i b c wk rm md (.slice ka kn kc) pk pa)] w fun e w' => e = .returned (.bool true) ∧ TwinAt (fun g => F g ∨ w.heap.size ≤ g) w' xp wp (m + 1) ∧ Kept F w w' := by
  rcases hk with rfl | rfl | rfl | rfl | rfl
  · exact changes2_calls F xp wp m hm r W V i b c wk rm md pk pa ka kn kc w ht
  · exact changes4_calls F xp wp m hm r W V i b c wk rm md pk pa ka kn kc w ht
  · exact changes6_calls F xp wp m hm r W V i b c wk rm md pk pa ka kn kc w ht
  · exact changes7_calls F xp wp m hm r W V i b c wk rm md pk pa ka kn kc w ht
  · exact changes8_calls F xp wp m hm r W V i b c wk rm md pk pa ka kn kc w ht
end Go.Proofs.YtdbbejedipfckaaGreatDoor
/-
  gleanlaw's twin.asks: one Tasks of the program and of the document's answer: both answer alike; the program's list goes to the books.
-/
namespace Go.Proofs.YtdbbejedipfckaaGreatDoor
open Go Go.RowKit

theorem tasksS_few {s : RunS} (h : Fits s) (i : Int) : (tasksS s i).1.length ≤ 1000000 := by
  unfold tasksS
  split
  · simp
  · cases hx : s.W[i.toNat]? with
    | none => simp
    | some x =>
      have h1 := h.few x (List.mem_of_getElem? hx)
      have h2 := h.rmax
      simp
      omega
/-- Tasks of both. -/
theorem twin_tasks {F : Nat → Prop} {w Z : World} {xp wp : Option Addr} {m : Nat} (W : Int) (ht : TwinAt F w xp wp m) (hZ : Below w.heap.size w Z) :
    ∃ (er : Int) (l : List TaskS), l.length ≤ 1000000 ∧
      Calls Tryz.prog 27 #[.pointer xp, .int .i64 W] Z (fun e w' => ∃ v, e = .returned (.tuple #[v, .int .i64 er]) ∧ w'.ownsRow Z.heap.size 76 3 v l.length (l.flatMap taskEnc) ∧ Below Z.heap.size Z w') ∧
      ∀ w1, Below Z.heap.size Z w1 → Calls Tryz.prog 37 #[.pointer wp, .int .i64 W] w1 (fun e w' => ∃ v, e = .returned (.tuple #[v, .int .i64 er]) ∧ w'.ownsRow w1.heap.size 76 3 v l.length (l.flatMap taskEnc) ∧ Below w1.heap.size w1 w') := by
  rcases ht with ⟨rfl, rfl⟩ | ⟨B1, B2, F1, F2, s, rfl, rfl, hx, hr, h12, h2, hal⟩
  · exact ⟨1, [], by simp, (x_tasks_nil W Z).mono fun e w' h => ⟨_, h.1, World.ownsRow_nil _ _ _ _, h.2⟩, fun w1 _ => (ref_tasks_nil W w1).mono fun e w' h => ⟨_, h.1, World.ownsRow_nil _ _ _ _, h.2 ▸ Below.refl _ _⟩⟩
  · exact ⟨(tasksS s W).2, (tasksS s W).1, tasksS_few hal.fits W, x_tasks_calls F1 B1 s W Z (hx.later hZ) hal.fits, fun w1 hb => ref_tasks_calls F2 B2 s W w1 (hr.later (hZ.trans (hb.mono hZ.size))) hal.fits⟩

set_option maxHeartbeats 4000000 in
set_option maxRecDepth 100000 in
theorem asks_calls (F Fb : Nat → Prop) (xp wp : Option Addr) (m Bb N came : Nat) (hN : N ≤ 300000000000) (hcm : came ≤ 300000000000) (r W V i b c wk rm md pk pa : Int) (ka : Option Addr) (kn kc : Nat) (w : World) (ht : TwinAt F w xp wp m) (hB : BooksOK Fb w Bb N came) :
    Calls Tryz.prog 19 #[.agg #[.pointer xp, .pointer wp], .pointer (some ⟨Bb, 0, none⟩), .agg (opV 3 r W V i b c wk rm md (.slice ka kn kc) pk pa)] w fun e w' => e = .returned (.bool true) ∧ (∃ N', N' ≤ N + 2 ∧ BooksOK (fun g => Fb g ∨ w.heap.size ≤ g) w' Bb N' (came + 1)) ∧ Kept Fb w w' := by
  obtain ⟨Z, hZ⟩ : ∃ Z, (w.alloc (Obj.cells #[.pointer xp, .pointer wp] 61)).alloc (Obj.cells (opV 3 r W V i b c wk rm md (.slice ka kn kc) pk pa) 58) = Z := ⟨_, rfl⟩
  have hbZ : Below w.heap.size w Z := by rw [← hZ]; exact ((Below.refl _ _).alloc (Nat.le_refl _) _).alloc (by simp) _
  have bT : BoxAt Z w.heap.size 61 #[.pointer xp, .pointer wp] := by rw [← hZ]; exact (BoxAt.new w _ _).alloc _
  have bO : BoxAt Z (w.heap.size + 1) 58 (opV 3 r W V i b c wk rm md (.slice ka kn kc) pk pa) := by rw [← hZ]; exact boxAt_at _ _ _ _ (by simp)
  have sZ : Z.heap.size = w.heap.size + 2 := by rw [← hZ]; simp
  have HBT := hid_of bT
  have HBO := hid_of bO
  have HBZ := hid_of hbZ
  obtain ⟨er, l, hl, hx, hr⟩ := twin_tasks W ht hbZ
  have HX := hid_of hx
  have HR := hid_of hr
  have HBK : Hid (BooksOK (fun g => Fb g ∧ g < w.heap.size) w Bb N came) := hB.mono (fun g hg h => ⟨h, hg⟩)
  have t0 := bT.cell (o := 0) rfl
  have o0 := bO.cell (o := 0) rfl
  have o2 := bO.cell (o := 2) rfl
  clear bT bO hbZ ht hx hr hB
  go_enter Tryz.func19, Tryz.ntmps19
  go_wp2_with (first
    | (go_at_call 27; refine HX.out.mono ?_; rintro e w1 ⟨v, rfl, hv, hb1⟩
       have t1 := (HBT.out.below hb1 (by omega)).cell (o := 1) rfl
       have o2' := (HBO.out.below hb1 (by omega)).cell (o := 2) rfl
       obtain ⟨va, vc, rfl⟩ := row_form hv
       have HV := hid_of hv
       have HB1 := hid_of hb1
       have e1 := hb1.size
       clear hv hb1)
    | (go_at_call 37; refine (HR.out w1 HB1.out).mono ?_; rintro e w2 ⟨v2, rfl, hv2, hb2⟩
       obtain ⟨va2, vc2, rfl⟩ := row_form hv2
       have HV' : Hid (w2.ownsRow Z.heap.size 76 3 (.slice va l.length vc) l.length (l.flatMap taskEnc)) := row_below HV.out hb2 (fun g e => (HV.out.lt g e).2)
       have HV2 := hid_of hv2
       have HB2 := hid_of hb2
       have e2 := hb2.size
       clear hv2 hb2)
    | (go_at_call 38; refine (likeT_calls _ _ l w2 (list_of_row (sz := 3) (enc := taskEnc) (fun _ => rfl) HV'.out rfl) (list_of_row (sz := 3) (enc := taskEnc) (fun _ => rfl) HV2.out rfl) (by omega)).mono ?_; rintro e w3 ⟨rfl, hb3⟩
       have e3 := hb3.size
       have HV3 : Hid (w3.ownsRow Z.heap.size 76 3 (.slice va l.length vc) l.length (l.flatMap taskEnc)) := row_below HV'.out hb3 (fun g e => (HV'.out.lt g e).2)
       have HB3 : Hid (Below w.heap.size w w3) := ((HBZ.out.trans (HB1.out.mono (by omega))).trans (HB2.out.mono (by omega))).trans (hb3.mono (by omega))
       have HBK3 : Hid (BooksOK (fun g => Fb g ∧ g < w.heap.size) w3 Bb N came) := HBK.out.later HB3.out
       clear hb3)
    | (go_at_call 39; refine (takeT_calls _ Bb N came (.slice va l.length vc) l w3 HBK3.out (row_kept HV3.out (Kept.refl (fun _ => False) _) (fun _ _ h => h) (Nat.zero_le _)) (fun g e h => by have := (HV3.out.lt g e).1; omega) hl hN hcm).mono ?_; rintro e w4 ⟨rfl, N', hN', hbk4, hk4⟩
       have HBK4 := hid_of hbk4
       have HK4 := hid_of hk4
       clear hbk4 hk4))
  go_ret
  refine ⟨by simp, ⟨N', hN', HBK4.out.mono (fun g _ h => ?_)⟩, ?_⟩
  · rcases h with h | h | h
    · exact .inl h.1
    · exact .inr (by omega)
    · have := (HV3.out.lt g h).1
      exact .inr (by omega)
  · refine (Kept.of_below HB3.out (fun k h1 h2 => absurd h1 (by omega))).andThen HK4.out (fun g hg h => ?_)
    rcases h with h | h
    · exact h.1
    · have := (HV3.out.lt g h).1
      omega
end Go.Proofs.YtdbbejedipfckaaGreatDoor
/-
  gleanlaw's twin.asks: one Messages of the program and of the document's answer: both answer alike; the program's list goes to the books.
-/
namespace Go.Proofs.YtdbbejedipfckaaGreatDoor
open Go Go.RowKit

/-- Messages of both. -/
theorem twin_messages {F : Nat → Prop} {w Z : World} {xp wp : Option Addr} {m : Nat} (ht : TwinAt F w xp wp m) (hZ : Below w.heap.size w Z) :
    ∃ (er : Int) (l : List MsgS), l.length ≤ 1000000 ∧
      Calls Tryz.prog 40 #[.pointer xp] Z (fun e w' => ∃ v, e = .returned (.tuple #[v, .int .i64 er]) ∧ w'.ownsRow Z.heap.size 139 15 v l.length (l.flatMap msgEnc) ∧ Below Z.heap.size Z w') ∧
      ∀ w1, Below Z.heap.size Z w1 → Calls Tryz.prog 41 #[.pointer wp] w1 (fun e w' => ∃ v, e = .returned (.tuple #[v, .int .i64 er]) ∧ w'.ownsRow w1.heap.size 139 15 v l.length (l.flatMap msgEnc) ∧ Below w1.heap.size w1 w') := by
  rcases ht with ⟨rfl, rfl⟩ | ⟨B1, B2, F1, F2, s, rfl, rfl, hx, hr, h12, h2, hal⟩
  · exact ⟨1, [], by simp, (x_messages_nil Z).mono fun e w' h => ⟨_, h.1, World.ownsRow_nil _ _ _ _, h.2 ▸ Below.refl _ _⟩, fun w1 _ => (ref_messages_nil w1).mono fun e w' h => ⟨_, h.1, World.ownsRow_nil _ _ _ _, h.2 ▸ Below.refl _ _⟩⟩
  · exact ⟨0, s.way, by have := hal.shaped.way; omega, x_messages_calls F1 B1 s Z (hx.later hZ) hal.shaped, fun w1 hb => ref_messages_calls F2 B2 s w1 (hr.later (hZ.trans (hb.mono hZ.size))) hal.shaped⟩

set_option maxHeartbeats 4000000 in
set_option maxRecDepth 100000 in
theorem asksM_calls (F Fb : Nat → Prop) (xp wp : Option Addr) (m Bb N came : Nat) (hN : N ≤ 300000000000) (hcm : came ≤ 300000000000) (r W V i b c wk rm md pk pa : Int) (ka : Option Addr) (kn kc : Nat) (w : World) (ht : TwinAt F w xp wp m) (hB : BooksOK Fb w Bb N came) :
    Calls Tryz.prog 19 #[.agg #[.pointer xp, .pointer wp], .pointer (some ⟨Bb, 0, none⟩), .agg (opV 5 r W V i b c wk rm md (.slice ka kn kc) pk pa)] w fun e w' => e = .returned (.bool true) ∧ (∃ N', N' ≤ N + 2 ∧ BooksOK (fun g => Fb g ∨ w.heap.size ≤ g) w' Bb N' (came + 1)) ∧ Kept Fb w w' := by
  obtain ⟨Z, hZ⟩ : ∃ Z, (w.alloc (Obj.cells #[.pointer xp, .pointer wp] 61)).alloc (Obj.cells (opV 5 r W V i b c wk rm md (.slice ka kn kc) pk pa) 58) = Z := ⟨_, rfl⟩
  have hbZ : Below w.heap.size w Z := by rw [← hZ]; exact ((Below.refl _ _).alloc (Nat.le_refl _) _).alloc (by simp) _
  have bT : BoxAt Z w.heap.size 61 #[.pointer xp, .pointer wp] := by rw [← hZ]; exact (BoxAt.new w _ _).alloc _
  have bO : BoxAt Z (w.heap.size + 1) 58 (opV 5 r W V i b c wk rm md (.slice ka kn kc) pk pa) := by rw [← hZ]; exact boxAt_at _ _ _ _ (by simp)
  have sZ : Z.heap.size = w.heap.size + 2 := by rw [← hZ]; simp
  have HBT := hid_of bT
  have HBO := hid_of bO
  have HBZ := hid_of hbZ
  obtain ⟨er, l, hl, hx, hr⟩ := twin_messages ht hbZ
  have HX := hid_of hx
  have HR := hid_of hr
  have HBK : Hid (BooksOK (fun g => Fb g ∧ g < w.heap.size) w Bb N came) := hB.mono (fun g hg h => ⟨h, hg⟩)
  have t0 := bT.cell (o := 0) rfl
  have o0 := bO.cell (o := 0) rfl
  clear bT bO hbZ ht hx hr hB
  go_enter Tryz.func19, Tryz.ntmps19
  go_wp2_with (first
    | (go_at_call 40; refine HX.out.mono ?_; rintro e w1 ⟨v, rfl, hv, hb1⟩
       have t1 := (HBT.out.below hb1 (by omega)).cell (o := 1) rfl
       obtain ⟨va, vc, rfl⟩ := row_form hv
       have HV := hid_of hv
       have HB1 := hid_of hb1
       have e1 := hb1.size
       clear hv hb1)
    | (go_at_call 41; refine (HR.out w1 HB1.out).mono ?_; rintro e w2 ⟨v2, rfl, hv2, hb2⟩
       obtain ⟨va2, vc2, rfl⟩ := row_form hv2
       have HV' : Hid (w2.ownsRow Z.heap.size 139 15 (.slice va l.length vc) l.length (l.flatMap msgEnc)) := row_below HV.out hb2 (fun g e => (HV.out.lt g e).2)
       have HV2 := hid_of hv2
       have HB2 := hid_of hb2
       have e2 := hb2.size
       clear hv2 hb2)
    | (go_at_call 42; refine (likeM_calls _ _ l w2 (list_of_row (sz := 15) (enc := msgEnc) (fun _ => rfl) HV'.out rfl) (list_of_row (sz := 15) (enc := msgEnc) (fun _ => rfl) HV2.out rfl) (by omega)).mono ?_; rintro e w3 ⟨rfl, hb3⟩
       have e3 := hb3.size
       have HV3 : Hid (w3.ownsRow Z.heap.size 139 15 (.slice va l.length vc) l.length (l.flatMap msgEnc)) := row_below HV'.out hb3 (fun g e => (HV'.out.lt g e).2)
       have HB3 : Hid (Below w.heap.size w w3) := ((HBZ.out.trans (HB1.out.mono (by omega))).trans (HB2.out.mono (by omega))).trans (hb3.mono (by omega))
       have HBK3 : Hid (BooksOK (fun g => Fb g ∧ g < w.heap.size) w3 Bb N came) := HBK.out.later HB3.out
       clear hb3)
    | (go_at_call 43; refine (takeM_calls _ Bb N came (.slice va l.length vc) l w3 HBK3.out (row_kept HV3.out (Kept.refl (fun _ => False) _) (fun _ _ h => h) (Nat.zero_le _)) (fun g e h => by have := (HV3.out.lt g e).1; omega) hl hN hcm).mono ?_; rintro e w4 ⟨rfl, N', hN', hbk4, hk4⟩
       have HBK4 := hid_of hbk4
       have HK4 := hid_of hk4
       clear hbk4 hk4))
  go_ret
  refine ⟨by simp, ⟨N', hN', HBK4.out.mono (fun g _ h => ?_)⟩, ?_⟩
  · rcases h with h | h | h
    · exact .inl h.1
    · exact .inr (by omega)
    · have := (HV3.out.lt g h).1
      exact .inr (by omega)
  · refine (Kept.of_below HB3.out (fun k h1 h2 => absurd h1 (by omega))).andThen HK4.out (fun g hg h => ?_)
    rcases h with h | h
    · exact h.1
    · have := (HV3.out.lt g h).1
      omega
end Go.Proofs.YtdbbejedipfckaaGreatDoor
