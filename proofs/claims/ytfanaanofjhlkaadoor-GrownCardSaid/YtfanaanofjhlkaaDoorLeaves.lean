/-
  What tree.First, tree.Value, tree.Tasks, tree.Children and strconv.Itoa at a digit hand back, for whatever program lies in memory.
-/
import Derived.Test.YtfanaanofjhlkaaDoorChecks
import Derived.Shelf.Abstract
import Derived.Shelf.RegionOpen
import Derived.OwnWalkIn
import Derived.TacticsInMore
import Derived.LoopNIn
import Derived.LoopIn
namespace Go.Proofs.YtfanaanofjhlkaaDoor
open Go Go.RowKit

set_option maxHeartbeats 400000 in
theorem small_calls (i : Nat) (hi : i < 10) (w : World) :
    Calls Tryd.prog 67 #[.int .i64 i] w fun e w' => e = .returned (.string ⟨#[digit i]⟩) ∧ w' = w := by
  have h : i = 0 ∨ i = 1 ∨ i = 2 ∨ i = 3 ∨ i = 4 ∨ i = 5 ∨ i = 6 ∨ i = 7 ∨ i = 8 ∨ i = 9 := by omega
  rcases h with rfl | rfl | rfl | rfl | rfl | rfl | rfl | rfl | rfl | rfl
  all_goals
    go_enter Tryd.func67, Tryd.ntmps67
    go_wp2
    go_ret
    exact ⟨rfl, rfl⟩

set_option maxHeartbeats 400000 in
theorem formatInt_calls (i : Nat) (hi : i < 10) (w : World) :
    Calls Tryd.prog 60 #[.int .i64 i, .int .i64 10] w fun e w' => e = .returned (.string ⟨#[digit i]⟩) ∧ w' = w := by
  go_enter Tryd.func60, Tryd.ntmps60
  go_wp2_with (go_at_call 67; refine (small_calls i hi _).mono ?_; rintro e w' ⟨rfl, rfl⟩)
  go_ret
  exact ⟨rfl, rfl⟩

set_option maxHeartbeats 400000 in
theorem itoa_calls (i : Nat) (hi : i < 10) (w : World) :
    Calls Tryd.prog 44 #[.int .i64 i] w fun e w' => e = .returned (.string ⟨#[digit i]⟩) ∧ w' = w := by
  have h2 : Calls Tryd.prog 48 #[.int .i64 i] w fun e w' => e = .returned (.string ⟨#[digit i]⟩) ∧ w' = w := by
    go_enter Tryd.func48, Tryd.ntmps48
    go_wp2_with (go_at_call 60; refine (formatInt_calls i hi _).mono ?_; rintro e w' ⟨rfl, rfl⟩)
    go_ret
    exact ⟨rfl, rfl⟩
  go_enter Tryd.func44, Tryd.ntmps44
  go_wp2_with (go_at_call 48; refine h2.mono ?_; rintro e w' ⟨rfl, rfl⟩)
  go_ret
  exact ⟨rfl, rfl⟩

set_option maxHeartbeats 400000 in
theorem first_calls (a : Option Addr) (len cap : Nat) (kind arg : Int) (w : World) :
    Calls Tryd.prog 36 #[.agg #[.slice a len cap, .int .i64 kind, .int .i64 arg]] w fun e w' => e = .returned (taskV ⟨⟨#[]⟩, kind, arg⟩) ∧ Below w.heap.size w w' := by
  go_enter Tryd.func36, Tryd.ntmps36
  go_wp2
  refine bodyPost_ret (v := taskV ⟨⟨#[]⟩, kind, arg⟩) (by simp [results, Tryd.results36, go_sem, taskV]) rfl ⟨rfl, ?_⟩
  exact ((Below.refl _ _).alloc (Nat.le_refl _) _).alloc (by simp) _

set_option maxHeartbeats 1000000 in
theorem value_calls (kv : Value) (kind arg : Int) (ks : List KindS) (t : TaskS) (ok : Nat → Prop) (w : World) (hk : KindsAt ok w kv ks) (hp : progB ks kind arg = true) (h0 : 0 ≤ t.kind) (h1 : t.kind < ks.length) (h2 : 0 ≤ t.arg) (h3 : t.arg ≤ 12) :
    Calls Tryd.prog 20 #[.agg #[kv, .int .i64 kind, .int .i64 arg], taskV t] w fun e w' => e = .returned (.agg #[.string t.id, .int .i64 (valueOf ks t)]) ∧ Below w.heap.size w w' := by
  obtain ⟨id, k, x⟩ := t
  obtain ⟨a, cap, rfl, hc⟩ := hk
  simp only at h0 h1 h2 h3
  obtain ⟨j, rfl⟩ := Int.eq_ofNat_of_zero_le h0
  have hj : j < ks.length := by omega
  obtain ⟨c, hcc⟩ : ∃ c, ks[j]? = some c := ⟨_, List.getElem?_eq_getElem hj⟩
  obtain ⟨b, o, v, rfl, hok, hbw, c0, c1, c2, hkk⟩ := hc j c hcc
  obtain ⟨a', cap', rfl, h'⟩ := hkk
  have hkb : kindB ks.length c = true := by
    simp [progB] at hp
    exact hp.1.1.2 c (List.mem_of_getElem? hcc)
  have hA : -1000 ≤ c.A ∧ c.A ≤ 1000 := by simp [kindB, rangeB] at hkb; omega
  have hB : -1000 ≤ c.B ∧ c.B ≤ 1000 := by simp [kindB, rangeB] at hkb; omega
  have HV : Hid (valueOf ks ⟨id, (j : Int), x⟩ = c.A * x + c.B) := by simp [Hid, valueOf, kindAt, hcc]
  have hlen : ks.length ≤ 5 := by simp [progB, rangeB] at hp; omega
  have hm1 : -12000 ≤ c.A * x := by
    have := Int.mul_le_mul_of_nonneg_right hA.1 h2; omega
  have hm2 : c.A * x ≤ 12000 := by
    have := Int.mul_le_mul_of_nonneg_right hA.2 h2; omega
  clear hc h' hp hkb
  have e0 := cell_alloc3 c0
  have e1 := cell_alloc3 c1
  have e2 := cell_alloc3 c2
  unfold taskV
  go_enter Tryd.func20, Tryd.ntmps20
  go_wp2
  refine bodyPost_ret (v := .agg #[.string id, .int .i64 (c.A * x + c.B)]) (by simp [results, Tryd.results20, go_sem]) rfl ⟨?_, ?_⟩
  · rw [HV.out]
  · exact ((((Below.refl _ _).alloc (Nat.le_refl _) _).alloc (by simp) _).alloc (by simp; omega) _).alloc (by simp; omega) _

set_option maxHeartbeats 400000 in
theorem tasks_in (F : Fence) (n : Nat) (hf : F.fn 18) (hro : F.round = none) (a : Option Addr) (len cap : Nat) (kind arg : Int) (w : World) :
    CallsIn F n Tryd.prog 18 #[.agg #[.slice a len cap, .int .i64 kind, .int .i64 arg]] w fun e w' => e = .returned (.func (.func 34) #[] #[.pointer (some ⟨w.heap.size, 0, none⟩)]) ∧ w' = w.alloc (.cells #[.slice a len cap, .int .i64 kind, .int .i64 arg] 24) := by
  refine callsIn_of_wp Tryd.func18 rfl hf ?_ hro
  simp only [Tryd.ntmps18, List.size_toArray, List.length_cons, List.length_nil, Nat.reduceAdd, Nat.reduceSub, Array.replicate_succ, Array.replicate_zero, List.push_toArray, List.append_toArray, List.nil_append, List.cons_append]
  gi_wp2
  go_ret
  exact ⟨rfl, rfl⟩

set_option maxHeartbeats 400000 in
theorem children_in (F : Fence) (n : Nat) (hf : F.fn 39) (hro : F.round = none) (a : Option Addr) (len cap : Nat) (kind arg : Int) (id : ByteArray) (k x : Int) (w : World) :
    CallsIn F n Tryd.prog 39 #[.agg #[.slice a len cap, .int .i64 kind, .int .i64 arg], .agg #[.string id, .int .i64 k, .int .i64 x]] w fun e w' =>
      e = .returned (.func (.func 43) #[] #[.pointer (some ⟨w.heap.size, 0, none⟩), .pointer (some ⟨w.heap.size + 1, 0, none⟩)]) ∧
      w' = (w.alloc (.cells #[.slice a len cap, .int .i64 kind, .int .i64 arg] 24)).alloc (.cells #[.string id, .int .i64 k, .int .i64 x] 53) := by
  refine callsIn_of_wp Tryd.func39 rfl hf ?_ hro
  simp only [Tryd.ntmps39, List.size_toArray, List.length_cons, List.length_nil, Nat.reduceAdd, Nat.reduceSub, Array.replicate_succ, Array.replicate_zero, List.push_toArray, List.append_toArray, List.nil_append, List.cons_append]
  gi_wp2
  go_ret
  exact ⟨rfl, rfl⟩
end Go.Proofs.YtfanaanofjhlkaaDoor
