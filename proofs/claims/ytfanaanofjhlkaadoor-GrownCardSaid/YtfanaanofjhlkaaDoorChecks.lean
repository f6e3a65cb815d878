/-
  The program's own test of what a program is (tree.IsProgram) answers just what the document calls a program, for whatever list of kinds lies in memory.
-/
import Derived.Test.YtfanaanofjhlkaaDoorShape
import Derived.Test.YtfanaanofjhlkaaDoorProg
import Derived.WalkKit
import Derived.BigQuiet
import Derived.Deep.QuietTactic
namespace Go.Proofs.YtfanaanofjhlkaaDoor
open Go Go.RowKit

set_option maxHeartbeats 400000 in
theorem within_calls (n lo hi : Int) (w : World) :
    Calls Tryd.prog 31 #[.int .i64 n, .int .i64 lo, .int .i64 hi] w fun e w' => e = .returned (.bool (rangeB n lo hi)) ∧ w' = w := by
  by_cases h1 : lo ≤ n
  · by_cases h2 : n ≤ hi
    · go_enter Tryd.func31, Tryd.ntmps31
      go_wp2
      go_ret
      exact ⟨by simp [rangeB, h1, h2], rfl⟩
    · go_enter Tryd.func31, Tryd.ntmps31
      go_wp2
      go_ret
      exact ⟨by simp [rangeB, h2], rfl⟩
  · go_enter Tryd.func31, Tryd.ntmps31
    go_wp2
    go_ret
    exact ⟨by simp [rangeB]; omega, rfl⟩

set_option maxHeartbeats 400000 in
theorem isNumber_calls (k n : Int) (h0 : 0 ≤ n) (h1 : n ≤ 9223372036854775807) (w : World) :
    Calls Tryd.prog 33 #[.int .i64 k, .int .i64 n] w fun e w' => e = .returned (.bool (numB k n)) ∧ w' = w := by
  go_enter Tryd.func33, Tryd.ntmps33
  go_wp2_with (go_at_call 31; refine (within_calls _ _ _ _).mono ?_; rintro e w' ⟨rfl, rfl⟩)
  go_ret
  exact ⟨by simp [rangeB, numB], rfl⟩


theorem kindB_at (n A B : Int) (l : List KidS) (hA : rangeB A (-1000) 1000 = true) (hB : rangeB B (-1000) 1000 = true) (h3 : l.length ≤ 3) : kindB n ⟨A, B, l⟩ = l.all (kidB n) := by
  simp [kindB, hA, hB, h3]
theorem all_drop_get {α : Type} (p : α → Bool) (l : List α) (k : Nat) (c : α) (h : l[k]? = some c) : (l.drop k).all p = (p c && (l.drop (k + 1)).all p) := by
  have hk := (List.getElem?_eq_some_iff.1 h).1
  have he := (List.getElem?_eq_some_iff.1 h).2
  rw [List.drop_eq_getElem_cons hk, List.all_cons, he]

set_option maxHeartbeats 1000000 in
theorem isKind_calls (A B n : Int) (kv : Value) (l : List KidS) (ok : Nat → Prop) (h0 : 0 ≤ n) (h1 : n ≤ 9223372036854775807) (w : World) (hk : KidsAt ok w kv l) (hl : l.length ≤ 9223372036854775806) :
    Calls Tryd.prog 32 #[.agg #[.int .i64 A, .int .i64 B, kv], .int .i64 n] w fun e w' => e = .returned (.bool (kindB n ⟨A, B, l⟩)) ∧ Below w.heap.size w w' := by
  obtain ⟨a, cap, rfl, hc⟩ := hk
  by_cases hA : rangeB A (-1000) 1000 = true
  case neg =>
    go_enter Tryd.func32, Tryd.ntmps32
    go_wp2_with (go_at_call 31; refine (within_calls _ _ _ _).mono ?_; rintro e w' ⟨rfl, rfl⟩)
    go_ret
    exact ⟨by simp [kindB, hA], (Below.refl _ _).alloc (Nat.le_refl _) _⟩
  by_cases hB : rangeB B (-1000) 1000 = true
  case neg =>
    go_enter Tryd.func32, Tryd.ntmps32
    go_wp2_with (go_at_call 31; refine (within_calls _ _ _ _).mono ?_; rintro e w' ⟨rfl, rfl⟩)
    go_ret
    exact ⟨by simp [kindB, hB], (Below.refl _ _).alloc (Nat.le_refl _) _⟩
  by_cases h3 : l.length ≤ 3
  case neg =>
    go_enter Tryd.func32, Tryd.ntmps32
    go_wp2_with (go_at_call 31; refine (within_calls _ _ _ _).mono ?_; rintro e w' ⟨rfl, rfl⟩)
    go_ret
    exact ⟨by simp [kindB, h3], (Below.refl _ _).alloc (Nat.le_refl _) _⟩
  have HK : Hid (kindB n ⟨A, B, l⟩ = l.all (kidB n)) := kindB_at n A B l hA hB h3
  go_enter Tryd.func32, Tryd.ntmps32
  go_wp2_with (go_at_call 31; refine (within_calls _ _ _ _).mono ?_; rintro e w' ⟨rfl, rfl⟩)
  go_loopw [24] (fun i wr => ∃ k : Nat, k ≤ l.length ∧ i = .int .i64 k ∧ l.all (kidB n) = (l.drop k).all (kidB n) ∧ Below w.heap.size w wr) (fun i _ => l.length - (intOf i).toNat)
  case atStart => exact ⟨0, Nat.zero_le _, rfl, rfl, (Below.refl _ _).alloc (Nat.le_refl _) _⟩
  case round =>
    obtain ⟨k, hk, rfl, hall, hb⟩ := hrel
    have HA : Hid (l.all (kidB n) = (l.drop k).all (kidB n)) := hall
    clear hall
    by_cases hlt : k < l.length
    · obtain ⟨c, hcc⟩ : ∃ c, l[k]? = some c := ⟨_, List.getElem?_eq_getElem hlt⟩
      obtain ⟨b, o, rfl, hok, hbw, c0, c1⟩ := hc k c hcc
      have d0 := (hb.cell (p := ⟨b, o + k * 2, none⟩) hbw).trans c0
      have d1 := (hb.cell (p := ⟨b, o + k * 2 + 1, none⟩) hbw).trans c1
      have HS : Hid ((l.drop k).all (kidB n) = (kidB n c && (l.drop (k + 1)).all (kidB n))) := all_drop_get _ l k c hcc
      clear hc c0 c1
      by_cases hn : numB c.kind n = true
      · by_cases hr : rangeB c.less 1 9 = true
        · go_wp2_with (first
            | (go_at_call 33; refine (isNumber_calls _ _ h0 h1 _).mono ?_; rintro e w' ⟨rfl, rfl⟩)
            | (go_at_call 31; refine (within_calls _ _ _ _).mono ?_; rintro e w' ⟨rfl, rfl⟩))
          go_roundw
          case rel => exact ⟨k + 1, by omega, by go_num, by rw [HA.out, HS.out]; simp [kidB, hn, hr], hb.trans ((Below.refl _ _).alloc hb.size _)⟩
          case measure => simp [intOf]; omega
        · go_wp2_with (first
            | (go_at_call 33; refine (isNumber_calls _ _ h0 h1 _).mono ?_; rintro e w' ⟨rfl, rfl⟩)
            | (go_at_call 31; refine (within_calls _ _ _ _).mono ?_; rintro e w' ⟨rfl, rfl⟩))
          go_ret
          exact ⟨by rw [HK.out, HA.out, HS.out]; simp [kidB, hr], hb.trans ((Below.refl _ _).alloc hb.size _)⟩
      · go_wp2_with (first
            | (go_at_call 33; refine (isNumber_calls _ _ h0 h1 _).mono ?_; rintro e w' ⟨rfl, rfl⟩)
            | (go_at_call 31; refine (within_calls _ _ _ _).mono ?_; rintro e w' ⟨rfl, rfl⟩))
        go_ret
        exact ⟨by rw [HK.out, HA.out, HS.out]; simp [kidB, hn], hb.trans ((Below.refl _ _).alloc hb.size _)⟩
    · go_wp2_with fail
      go_ret
      exact ⟨by rw [HK.out, HA.out, List.drop_eq_nil_of_le (by omega)]; rfl, hb⟩

/-- A program's value lies so. -/
def ProgAt (ok : Nat → Prop) (W : World) (pv : Value) (ks : List KindS) (kind arg : Int) : Prop :=
  ∃ kv, pv = .agg #[kv, .int .i64 kind, .int .i64 arg] ∧ KindsAt ok W kv ks

set_option maxHeartbeats 1000000 in
theorem isProgram_calls (kv : Value) (kind arg : Int) (ks : List KindS) (ok : Nat → Prop) (w : World) (hk : KindsAt ok w kv ks) (hl : ks.length ≤ 9223372036854775806) (hl2 : ∀ k ∈ ks, k.kids.length ≤ 9223372036854775806) :
    Calls Tryd.prog 17 #[.agg #[kv, .int .i64 kind, .int .i64 arg]] w fun e w' => e = .returned (.bool (progB ks kind arg)) ∧ Below w.heap.size w w' := by
  obtain ⟨a, cap, rfl, hc⟩ := hk
  by_cases hR : rangeB ks.length 1 5 = true
  case neg =>
    go_enter Tryd.func17, Tryd.ntmps17
    go_wp2_with (go_at_call 31; refine (within_calls _ _ _ _).mono ?_; rintro e w' ⟨rfl, rfl⟩)
    go_ret
    exact ⟨by simp [progB, hR], (Below.refl _ _).alloc (Nat.le_refl _) _⟩
  go_enter Tryd.func17, Tryd.ntmps17
  go_wp2_with (go_at_call 31; refine (within_calls _ _ _ _).mono ?_; rintro e w' ⟨rfl, rfl⟩)
  go_loopw [13] (fun i wr => ∃ k : Nat, k ≤ ks.length ∧ i = .int .i64 k ∧ ks.all (kindB ks.length) = (ks.drop k).all (kindB ks.length) ∧ Below w.heap.size w wr ∧ BoxAt wr w.heap.size 24 #[.slice a ks.length cap, .int .i64 kind, .int .i64 arg]) (fun i _ => ks.length - (intOf i).toNat)
  case atStart => exact ⟨0, Nat.zero_le _, rfl, rfl, (Below.refl _ _).alloc (Nat.le_refl _) _, BoxAt.new _ _ _⟩
  case round =>
    obtain ⟨k, hk, rfl, hall, hb, hbox⟩ := hrel
    have HA : Hid (ks.all (kindB ks.length) = (ks.drop k).all (kindB ks.length)) := hall
    clear hall
    have HB : Hid (BoxAt wr w.heap.size 24 #[.slice a ks.length cap, .int .i64 kind, .int .i64 arg]) := hbox
    have hlt' := hbox.lt
    have b0 := hbox.cell (o := 0) rfl
    have b1 := hbox.cell (o := 1) rfl
    have b2 := hbox.cell (o := 2) rfl
    clear hbox
    by_cases hlt : k < ks.length
    · obtain ⟨c, hcc⟩ : ∃ c, ks[k]? = some c := ⟨_, List.getElem?_eq_getElem hlt⟩
      obtain ⟨b, o, kv, rfl, hok, hbw, c0, c1, c2, hkk⟩ := hc k c hcc
      have d0 := (hb.cell (p := ⟨b, o + k * 3, none⟩) hbw).trans c0
      have d1 := (hb.cell (p := ⟨b, o + k * 3 + 1, none⟩) hbw).trans c1
      have d2 := (hb.cell (p := ⟨b, o + k * 3 + 2, none⟩) hbw).trans c2
      have HS : Hid ((ks.drop k).all (kindB ks.length) = (kindB ks.length c && (ks.drop (k + 1)).all (kindB ks.length))) := all_drop_get _ ks k c hcc
      have hcl := hl2 c (List.mem_of_getElem? hcc)
      obtain ⟨A, B, kids⟩ := c
      obtain ⟨a', cap', rfl, h'⟩ := hkk
      have HW : Hid (∀ o : Obj, Calls Tryd.prog 32 #[.agg #[.int .i64 A, .int .i64 B, .slice a' kids.length cap'], .int .i64 ks.length] (wr.alloc o) fun e w' => e = .returned (.bool (kindB ks.length ⟨A, B, kids⟩)) ∧ Below (wr.alloc o).heap.size (wr.alloc o) w') := fun o =>
        isKind_calls A B ks.length _ kids (fun _ => True) (by omega) (by omega) _ (by
          refine ⟨a', cap', rfl, fun j c hj => ?_⟩
          obtain ⟨b', o', ha, _, hb', e0, e1⟩ := h' j c hj
          have hz := hb.size
          exact ⟨b', o', ha, trivial, by simp; omega, ((hb.trans ((Below.refl _ _).alloc hb.size _)).cell (p := ⟨b', _, none⟩) hb').trans e0, ((hb.trans ((Below.refl _ _).alloc hb.size _)).cell (p := ⟨b', _, none⟩) hb').trans e1⟩) (by simpa using hcl)
      simp only at d0 d1 d2
      clear hc h' c0 c1 c2
      by_cases hkB : kindB ks.length ⟨A, B, kids⟩ = true
      · go_wp2_with fail
        refine (HW.out _).mono ?_
        rintro e w' ⟨rfl, hb1⟩
        go_wp2_with fail
        go_roundw
        case rel => exact ⟨k + 1, by omega, by go_num, by rw [HA.out, HS.out]; simp [hkB], (hb.trans ((Below.refl _ _).alloc hb.size _)).trans (hb1.mono (by have := hb.size; simp; omega)), (HB.out.alloc _).below hb1 (by simp; omega)⟩
        case measure => simp [intOf]; omega
      · go_wp2_with fail
        refine (HW.out _).mono ?_
        rintro e w' ⟨rfl, hb1⟩
        go_wp2_with fail
        go_ret
        exact ⟨by simp only [progB]; rw [HA.out, HS.out]; simp [hkB], (hb.trans ((Below.refl _ _).alloc hb.size _)).trans (hb1.mono (by have := hb.size; simp; omega))⟩
    · have hall : Hid (ks.all (kindB ks.length) = true) := by rw [HA.out, List.drop_eq_nil_of_le (by omega)]; rfl
      by_cases hn : numB kind ks.length = true
      · go_wp2_with (first
            | (go_at_call 33; refine (isNumber_calls _ _ (by omega) (by omega) _).mono ?_; rintro e w' ⟨rfl, rfl⟩)
            | (go_at_call 31; refine (within_calls _ _ _ _).mono ?_; rintro e w' ⟨rfl, rfl⟩))
        go_ret
        exact ⟨by simp [progB, hall.out, hR, hn], hb⟩
      · go_wp2_with (first
            | (go_at_call 33; refine (isNumber_calls _ _ (by omega) (by omega) _).mono ?_; rintro e w' ⟨rfl, rfl⟩)
            | (go_at_call 31; refine (within_calls _ _ _ _).mono ?_; rintro e w' ⟨rfl, rfl⟩))
        go_ret
        exact ⟨by simp [progB, hn], hb⟩
end Go.Proofs.YtfanaanofjhlkaaDoor
