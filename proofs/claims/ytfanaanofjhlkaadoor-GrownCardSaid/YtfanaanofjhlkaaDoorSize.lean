/-
  gleankeep.size tells how many tasks a tree has, or one more than the limit where there are more: for whatever program lies in memory.
-/
import Derived.Test.YtfanaanofjhlkaaDoorPick
namespace Go.Proofs.YtfanaanofjhlkaaDoor
open Go Go.RowKit

/-- The sum of C over the kids of a list whose Less is at most x. -/
def sumKids (C : KidS → Nat) (x : Int) (l : List KidS) : Nat := (l.map fun d => if d.less ≤ x then C d else 0).sum
theorem sumKids_take (C : KidS → Nat) (x : Int) (l : List KidS) (m : Nat) (d : KidS) (h : l[m]? = some d) : sumKids C x (l.take (m + 1)) = sumKids C x (l.take m) + if d.less ≤ x then C d else 0 := by
  have hk := (List.getElem?_eq_some_iff.1 h).1
  have he := (List.getElem?_eq_some_iff.1 h).2
  rw [List.take_succ_eq_append_getElem hk, he]
  simp [sumKids]
theorem sumKids_le (C : KidS → Nat) (x : Int) (l : List KidS) (m : Nat) : sumKids C x (l.take m) ≤ sumKids C x l := by
  have h := congrArg (sumKids C x) (List.take_append_drop m l)
  have e : sumKids C x (l.take m ++ l.drop m) = sumKids C x (l.take m) + sumKids C x (l.drop m) := by unfold sumKids; rw [List.map_append, List.sum_append]
  omega

/-- What a call of size at a task of kind k and argument x does, s being how many tasks its tree has. -/
def SizeSays (ks : List KindS) (kind arg : Int) (a : Option Addr) (cap : Nat) (k x : Int) (s : Nat) : Prop := ∀ (ok : Nat → Prop) (id : ByteArray) (limit : Nat) (w : World), limit ≤ 200 → KindsAt ok w (.slice a ks.length cap) ks →
  Calls Tryd.prog 14 #[.agg #[.slice a ks.length cap, .int .i64 kind, .int .i64 arg], .agg #[.string id, .int .i64 k, .int .i64 x], .int .i64 limit] w fun e w' => e = .returned (.int .i64 ((min s (limit + 1) : Nat) : Int)) ∧ Below w.heap.size w w'

set_option maxHeartbeats 2000000 in
theorem size_step (ks : List KindS) (kind arg : Int) (a : Option Addr) (cap : Nat) (hprog : progB ks kind arg = true) (j : Nat) (x : Int) (c : KindS) (hcc : ks[j]? = some c) (hkl : c.kids.length ≤ 3)
    (hkids : ∀ d ∈ c.kids, 1 ≤ d.less ∧ d.less ≤ 9 ∧ 0 ≤ d.kind ∧ d.kind < ks.length) (g2 : 0 ≤ x) (g3 : x ≤ 12) (C : KidS → Nat)
    (ih : ∀ d ∈ c.kids, d.less ≤ x → SizeSays ks kind arg a cap d.kind (x - d.less) (C d)) : SizeSays ks kind arg a cap j x (1 + sumKids C x c.kids) := by
  intro ok id limit w hlim hk
  have kW := hk.below
  have hlen5 : ks.length ≤ 5 := by simp [progB, rangeB] at hprog; omega
  have hjl : j < ks.length := (List.getElem?_eq_some_iff.1 hcc).1
  obtain ⟨a', cap', hs, hc⟩ := hk
  simp only [Value.slice.injEq] at hs
  obtain ⟨rfl, -, rfl⟩ := hs
  obtain ⟨b, o, v, rfl, hok, hbw, c0, c1, c2, a', cap', rfl, h'⟩ := hc j c hcc
  clear hprog hc
  have d2 := fun o1 o2 => cell_alloc o2 (cell_alloc o1 c2)
  go_enter Tryd.func14, Tryd.ntmps14
  go_wp2_with fail
  go_loopw [7, 9] (fun n i wr => ∃ m : Nat, m ≤ c.kids.length ∧ i = .int .i64 m ∧ n = .int .i64 ((min (1 + sumKids C x (c.kids.take m)) (limit + 1) : Nat) : Int) ∧ Below w.heap.size w wr ∧ BoxAt wr w.heap.size 24 #[.slice (some ⟨b, o, none⟩) ks.length cap, .int .i64 kind, .int .i64 arg] ∧ BoxAt wr (w.heap.size + 1) 53 #[.string id, .int .i64 j, .int .i64 x]) (fun _ i _ => c.kids.length - (intOf i).toNat)
  case atStart =>
    refine ⟨0, Nat.zero_le _, rfl, by simp [sumKids], ((Below.refl _ _).alloc (Nat.le_refl _) _).alloc (by simp) _, (BoxAt.new w _ _).alloc _, ?_⟩
    have := BoxAt.new (w.alloc (Obj.cells #[Value.slice (some { block := b, off := o }) ks.length cap, Value.int IntKind.i64 kind, Value.int IntKind.i64 arg] 24)) 53 #[.string id, .int .i64 j, .int .i64 x]
    simpa only [World.size_alloc] using this
  case round =>
    obtain ⟨m, hm, rfl, rfl, hb, hbp, hbt⟩ := hrel
    have HBP : Hid (BoxAt wr w.heap.size 24 #[.slice (some ⟨b, o, none⟩) ks.length cap, .int .i64 kind, .int .i64 arg]) := hbp
    have HBT : Hid (BoxAt wr (w.heap.size + 1) 53 #[.string id, .int .i64 j, .int .i64 x]) := hbt
    have p0 := hbp.cell (o := 0) rfl
    have p1 := hbp.cell (o := 1) rfl
    have p2 := hbp.cell (o := 2) rfl
    have u2 := hbt.cell (o := 2) rfl
    have lt2 := hbt.lt
    clear hbp hbt
    have hsl := sumKids_le C x c.kids m
    obtain ⟨n, hn⟩ : ∃ n, min (1 + sumKids C x (c.kids.take m)) (limit + 1) = n := ⟨_, rfl⟩
    rw [hn]
    have HN : Hid (min (1 + sumKids C x (c.kids.take m)) (limit + 1) = n) := hn
    have hn1 : n ≤ limit + 1 := by omega
    clear hn
    by_cases hlt : m < c.kids.length
    · obtain ⟨d, hd⟩ : ∃ d, c.kids[m]? = some d := ⟨_, List.getElem?_eq_getElem hlt⟩
      by_cases hnl : n ≤ limit
      · obtain ⟨b', o', rfl, hok', hbw', d0, d1⟩ := h' m d hd
        have f0 := (hb.cell (p := ⟨b', o' + m * 2, none⟩) hbw').trans d0
        have f1 := (hb.cell (p := ⟨b', o' + m * 2 + 1, none⟩) hbw').trans d1
        obtain ⟨hl1, hl9, hk0, hk1⟩ := hkids d (List.mem_of_getElem? hd)
        have HT : Hid (sumKids C x (c.kids.take (m + 1)) = sumKids C x (c.kids.take m) + if d.less ≤ x then C d else 0) := sumKids_take C x c.kids m d hd
        by_cases hless : d.less ≤ x
        · obtain ⟨r, hr⟩ : ∃ r, min (C d) (limit - n + 1) = r := ⟨_, rfl⟩
          have hr1 : r ≤ 201 := by omega
          have HT2 : Hid (min (1 + sumKids C x (c.kids.take (m + 1))) (limit + 1) = n + r) := by show _ = _; rw [HT.out, if_pos hless]; have := HN.out; omega
          have HS : Hid (∀ V, (Below wr.heap.size wr V ∧ V.cell? ⟨w.heap.size, 0, none⟩ = some (.slice (some ⟨b, o, none⟩) ks.length cap) ∧ V.cell? ⟨w.heap.size, 1, none⟩ = some (.int .i64 kind) ∧ V.cell? ⟨w.heap.size, 2, none⟩ = some (.int .i64 arg) ∧ V.cell? ⟨w.heap.size + 1, 2, none⟩ = some (.int .i64 x) ∧ V.cell? ⟨b', o' + m * 2, none⟩ = some (.int .i64 d.kind) ∧ V.cell? ⟨b', o' + m * 2 + 1, none⟩ = some (.int .i64 d.less)) →
              Calls Tryd.prog 14 #[.agg #[.slice (some ⟨b, o, none⟩) ks.length cap, .int .i64 kind, .int .i64 arg], .agg #[.string ⟨#[]⟩, .int .i64 d.kind, .int .i64 (x - d.less)], .int .i64 ((limit : Int) - n)] V fun e V' => e = .returned (.int .i64 (r : Int)) ∧
                (Below wr.heap.size wr V' ∧ V'.cell? ⟨w.heap.size, 0, none⟩ = some (.slice (some ⟨b, o, none⟩) ks.length cap) ∧ V'.cell? ⟨w.heap.size, 1, none⟩ = some (.int .i64 kind) ∧ V'.cell? ⟨w.heap.size, 2, none⟩ = some (.int .i64 arg) ∧ V'.cell? ⟨w.heap.size + 1, 2, none⟩ = some (.int .i64 x) ∧ V'.cell? ⟨b', o' + m * 2, none⟩ = some (.int .i64 d.kind) ∧ V'.cell? ⟨b', o' + m * 2 + 1, none⟩ = some (.int .i64 d.less))) := fun V hV => by
            have hcall := ih d (List.mem_of_getElem? hd) hless _ ⟨#[]⟩ (limit - n) V (by omega) (kW.kept (Kept.of_below (X := fun k => w.heap.size ≤ k) (hb.trans (hV.1.mono hb.size)) (fun _ _ h => h)) (fun b h => by omega))
            rw [show ((limit - n : Nat) : Int) = (limit : Int) - n from by omega] at hcall
            refine hcall.mono ?_
            rintro e V' ⟨rfl, hbV⟩
            rw [hr]
            have hbb := hV.1.trans (hbV.mono hV.1.size)
            refine ⟨rfl, hbb, ?_, ?_, ?_, ?_, ?_, ?_⟩
            · exact (hbb.cell (p := ⟨w.heap.size, 0, none⟩) (by simp; omega)).trans p0
            · exact (hbb.cell (p := ⟨w.heap.size, 1, none⟩) (by simp; omega)).trans p1
            · exact (hbb.cell (p := ⟨w.heap.size, 2, none⟩) (by simp; omega)).trans p2
            · exact (hbb.cell (p := ⟨w.heap.size + 1, 2, none⟩) (by simp; omega)).trans u2
            · exact (hbb.cell (p := ⟨b', o' + m * 2, none⟩) (by simp; omega)).trans f0
            · exact (hbb.cell (p := ⟨b', o' + m * 2 + 1, none⟩) (by simp; omega)).trans f1
          clear hr
          have z5 : IntKind.i64.wrap ((n : Int) + r) = (n : Int) + r := IntWalk.i64_in _ (by omega)
          have z3 : IntKind.i64.wrap (x - d.less) = x - d.less := IntWalk.i64_in _ (by omega)
          have z4 : IntKind.i64.wrap ((limit : Int) - n) = (limit : Int) - n := IntWalk.i64_in _ (by omega)
          go_wp2_with fail
          go_quiet (fail)
          go_wp2_with fail
          go_region_held3 (fun V => Below wr.heap.size wr V ∧ V.cell? ⟨w.heap.size, 0, none⟩ = some (.slice (some ⟨b, o, none⟩) ks.length cap) ∧ V.cell? ⟨w.heap.size, 1, none⟩ = some (.int .i64 kind) ∧ V.cell? ⟨w.heap.size, 2, none⟩ = some (.int .i64 arg) ∧ V.cell? ⟨w.heap.size + 1, 2, none⟩ = some (.int .i64 x) ∧ V.cell? ⟨b', o' + m * 2, none⟩ = some (.int .i64 d.kind) ∧ V.cell? ⟨b', o' + m * 2 + 1, none⟩ = some (.int .i64 d.less))
            (first | assumption | (refine ⟨?_, ?_, ?_, ?_, ?_, ?_, ?_⟩ <;> first | exact (below_drewN (Below.refl _ _) _).drew | exact below_drewN (Below.refl _ _) _ | (simp [*]; done)))
            (first | (go_at_call 14; refine (HS.out _ (by assumption)).mono ?_; rintro e w' ⟨rfl, hS⟩))
          go_wp2_with fail
          go_roundw
          case rel => exact ⟨m + 1, by omega, by go_num, by rw [HT2.out]; go_num, hb.trans (hS.1.mono hb.size), HBP.out.below hS.1 (by omega), HBT.out.below hS.1 (by omega)⟩
          case measure => simp [intOf]; omega
        · have HT2 : Hid (min (1 + sumKids C x (c.kids.take (m + 1))) (limit + 1) = n) := by show _ = _; rw [HT.out, if_neg hless]; exact HN.out
          go_wp2_with fail
          go_quiet (fail)
          go_wp2_with fail
          go_roundw
          case rel => exact ⟨m + 1, by omega, by go_num, by rw [HT2.out], below_drewN hb _, HBP.out.drewN _, HBT.out.drewN _⟩
          case measure => simp [intOf]; omega
      · have HF : Hid (min (1 + sumKids C x c.kids) (limit + 1) = n) := by show _ = _; have := HN.out; omega
        go_wp2_with fail
        go_ret
        exact ⟨by rw [HF.out]; rfl, hb⟩
    · have HF : Hid (min (1 + sumKids C x c.kids) (limit + 1) = n) := by
        have := HN.out; rw [List.take_of_length_le (by omega)] at this; exact this
      go_wp2_with fail
      all_goals
        go_ret
        exact ⟨by rw [HF.out]; rfl, hb⟩

/-- How many tasks a tree has. -/
def cnt (ks : List KindS) : Nat → Int → Int → Nat
  | 0, _, _ => 1
  | f + 1, k, x => 1 + sumKids (fun d => cnt ks f d.kind (x - d.less)) x (kindAt ks k).kids

theorem flatMap_length_kids (ks : List KindS) (f : Nat) (id : ByteArray) (x : Int) (h : ∀ (t : TaskS), (tree ks f t).length = cnt ks f t.kind t.arg) :
    ∀ (l : List KidS) (i : Nat), ((childrenFrom id x i l).flatMap (tree ks f)).length = sumKids (fun d => cnt ks f d.kind (x - d.less)) x l
  | [], _ => rfl
  | d :: r, i => by
    have ih := flatMap_length_kids ks f id x h r (i + 1)
    unfold childrenFrom
    by_cases hd : d.less ≤ x
    · rw [if_pos hd, List.flatMap_cons, List.length_append, ih, h]
      simp [sumKids, hd]
    · rw [if_neg hd, ih]
      simp [sumKids, hd]
theorem tree_length (ks : List KindS) : ∀ (f : Nat) (t : TaskS), (tree ks f t).length = cnt ks f t.kind t.arg
  | 0, t => rfl
  | f + 1, t => by
    show ((t :: (children ks t).flatMap (tree ks f)).length) = _
    rw [List.length_cons]
    unfold children
    rw [flatMap_length_kids ks f t.id t.arg (tree_length ks f)]
    show _ = 1 + sumKids (fun d => cnt ks f d.kind (t.arg - d.less)) t.arg (kindAt ks t.kind).kids
    omega

theorem size_says {ks : List KindS} {kind arg : Int} (a : Option Addr) (cap : Nat) (hp : progB ks kind arg = true) : ∀ (f : Nat) (k x : Int), 0 ≤ k → k < ks.length → 0 ≤ x → x ≤ 12 → x ≤ f → SizeSays ks kind arg a cap k x (cnt ks f k x)
  | 0, k, x, h0, h1, h2, h3, h4 => by
    obtain ⟨j, c, rfl, hcc, hkc, hkl, hkids, -, -⟩ := kind_facts hp h0 h1
    have := size_step ks kind arg a cap hp j x c hcc hkl hkids h2 h3 (fun _ => 0) (fun d hd hl => by have := hkids d hd; omega)
    have e : sumKids (fun _ => 0) x c.kids = 0 := by
      unfold sumKids
      have : c.kids.map (fun d => if d.less ≤ x then 0 else 0) = c.kids.map (fun _ => 0) := by simp
      rw [this]
      clear this
      induction c.kids with
      | nil => rfl
      | cons a l ih => simpa using ih
    rw [e] at this
    exact this
  | f + 1, k, x, h0, h1, h2, h3, h4 => by
    obtain ⟨j, c, rfl, hcc, hkc, hkl, hkids, -, -⟩ := kind_facts hp h0 h1
    have := size_step ks kind arg a cap hp j x c hcc hkl hkids h2 h3 (fun d => cnt ks f d.kind (x - d.less)) (fun d hd hl => by
      have := hkids d hd
      exact size_says a cap hp f d.kind (x - d.less) (by omega) (by omega) (by omega) (by omega) (by omega))
    unfold cnt
    rw [hkc]
    exact this
end Go.Proofs.YtfanaanofjhlkaaDoor
