/-
  The workers that a run begins with, as the project makes them: the first task is with worker 0.
-/
import Derived.Test.YtdbbejedipfckaaGreatDoorXCopy
namespace Go.Proofs.YtdbbejedipfckaaGreatDoor
open Go Go.RowKit

theorem infoXW : (Tryz.prog.info? 135).map (fun i => (i.zero, i.size, i.bytes)) = some (some (.agg #[.pointer none, .slice none 0 0, .int .i64 0, .bool false]), 4, 48) := by kernel_rfl
set_option maxHeartbeats 4000000 in
set_option maxRecDepth 100000 in
theorem newWorkers_calls (n : Nat) (room mode : Int) (t : TaskS) (w : World) (hn2 : 2 ≤ n) (hn5 : n ≤ 5) :
    Calls Tryz.prog 69 #[.agg #[.int .i64 n, .int .i64 room, .int .i64 mode], .agg #[.string t.id, .int .i64 t.kind, .int .i64 t.arg]] w fun e w' => ∃ (part : Nat → Nat) (g : Nat) (xs : List XW), e = .returned (.slice (some ⟨g, 0, none⟩) n n) ∧ (∀ b, part b ≠ 0 → w.heap.size ≤ b ∧ b < w'.heap.size ∧ 7 ≤ part b) ∧
      RowIn (fun b => part b = 7) 135 4 xwEnc w' (.slice (some ⟨g, 0, none⟩) n n) xs ∧ xs.length = n ∧ (∀ i x, xs[i]? = some x → x.2.2 = (0, false) ∧ TaskListAt (fun b => part b = 10 + i) w' x.1 room (if i = 0 then [t] else []) ∧ XLinksAt part i w' x.2.1 (List.replicate n link0)) ∧ Below w.heap.size w w' := by
  obtain ⟨i0, hi0, hz0, hz1, hz2⟩ := info_parts infoXW
  obtain ⟨V, hV⟩ : ∃ V, (w.alloc (Obj.cells #[.int .i64 n, .int .i64 room, .int .i64 mode] 39)).alloc (Obj.cells #[.string t.id, .int .i64 t.kind, .int .i64 t.arg] 76) = V := ⟨_, rfl⟩
  have bC : BoxAt V w.heap.size 39 #[.int .i64 n, .int .i64 room, .int .i64 mode] := by rw [← hV]; exact (BoxAt.new w _ _).alloc _
  have bT : BoxAt V (w.heap.size + 1) 76 #[.string t.id, .int .i64 t.kind, .int .i64 t.arg] := by
    rw [← hV]; have := BoxAt.new (w.alloc (Obj.cells #[.int .i64 n, .int .i64 room, .int .i64 mode] 39)) 76 #[.string t.id, .int .i64 t.kind, .int .i64 t.arg]
    rw [World.size_alloc] at this; exact this
  have hbV : Below w.heap.size w V := by rw [← hV]; exact ((Below.refl _ _).alloc (Nat.le_refl _) _).alloc (by simp) _
  have sV : V.heap.size = w.heap.size + 2 := by rw [← hV]; simp
  have c0 := bC.cell (o := 0) rfl
  have HBC := hid_of bC
  have HBT := hid_of bT
  have HBV := hid_of hbV
  clear bC bT hbV
  go_enter Tryz.func69, Tryz.ntmps69
  go_wp2_with (at_make; refine wpList_make_full _ rfl _ _ 122 rfl V.heap.size 135 i0 _ 4 Tryz.underlying122 hi0 hz0 hz1 .i64 .i64 _ _ n rfl rfl (by simp) (by simp) (by rw [hz2]; omega) (by unfold maxLen; omega) (Nat.le_refl _) ?_; intro w1 hown1 hgrow1)
  obtain ⟨cur, hcur, hcn⟩ : ∃ cur, BoxAt w1 V.heap.size 135 cur ∧ cur.size = n * 4 := by
    rcases hown1.2 with ⟨h0, _⟩ | ⟨g', cap', cur, h0, hb, hcur, hnc, hcm, hcs, htk⟩
    · cases h0
    · cases h0
      exact ⟨cur, hcur, hcs⟩
  have hb1 : Below V.heap.size V w1 := (Kept.grown hgrow1 (X := fun _ => False) (fun r e => by cases e)).below (Nat.le_refl _) (fun _ h => h.elim)
  have HB1 := hid_of hb1
  obtain ⟨G, hG⟩ : ∃ G, w.heap.size + 2 = G := ⟨_, rfl⟩
  rw [sV, hG] at hcur
  rw [hG]
  have HCUR := hid_of hcur
  have HCN : Hid (cur.size = n * 4) := hcn
  have sz1 := hcur.lt
  have HC1 : Hid (BoxAt w1 w.heap.size 39 #[.int .i64 n, .int .i64 room, .int .i64 mode]) := HBC.out.below hb1 HBC.out.lt
  have HT1 : Hid (BoxAt w1 (w.heap.size + 1) 76 #[.string t.id, .int .i64 t.kind, .int .i64 t.arg]) := HBT.out.below hb1 HBT.out.lt
  have HBW1 : Hid (Below w.heap.size w w1) := HBV.out.trans (hb1.mono (by omega))
  clear hown1 hgrow1 hcur hb1 hcn c0 hV
  go_loopw [12] (fun iv wr => ∃ (k : Nat) (part : Nat → Nat) (cur : Array Value) (xs : List XW), k ≤ n ∧ iv = .int .i64 k ∧ BoxAt wr G 135 cur ∧ cur.size = n * 4 ∧ xs.length = k ∧ (∀ j x i u, xs[j]? = some x → (xwEnc x)[i]? = some u → cur[j * 4 + i]? = some u) ∧ (∀ b, part b ≠ 0 → G < b ∧ 8 ≤ part b) ∧ (∀ i x, xs[i]? = some x → x.2.2 = (0, false) ∧ TaskListAt (fun b => part b = 10 + i) wr x.1 room [] ∧ XLinksAt part i wr x.2.1 (List.replicate n link0)) ∧ Kept (· = G) w1 wr) (fun iv _ => n - (intOf iv).toNat)
  case atStart => exact ⟨0, fun _ => 0, cur, [], Nat.zero_le _, rfl, HCUR.out, HCN.out, rfl, (fun j x i u h => by simp at h), (fun b h => absurd rfl h), (fun i x h => by simp at h), Kept.refl _ _⟩
  case round =>
    obtain ⟨k, part, cu, xs, hk, rfl, hbox, hcz, hxl, hxc, hpt, htl, hkw⟩ := hrel
    rename World => wr
    have HBOX := hid_of hbox
    have HCZ : Hid (cu.size = n * 4) := hcz
    have HXL : Hid (xs.length = k) := hxl
    have HXC := hid_of hxc
    have HPT := hid_of hpt
    have HTL := hid_of htl
    have HKW := hid_of hkw
    have szr := hkw.size
    have HCr : Hid (BoxAt wr w.heap.size 39 #[.int .i64 n, .int .i64 room, .int .i64 mode]) := HC1.out.kept hkw (by omega)
    have HTr : Hid (BoxAt wr (w.heap.size + 1) 76 #[.string t.id, .int .i64 t.kind, .int .i64 t.arg]) := HT1.out.kept hkw (by omega)
    have c0 := HCr.out.cell (o := 0) rfl
    have c1 := HCr.out.cell (o := 1) rfl
    clear hbox hcz hxl hxc hpt htl hkw
    by_cases hlt : k < n
    · have j1 : (0 : Int) ≤ (k : Int) := by omega
      have j2 : (k : Int) < (n : Int) := by omega
      have HNW : Hid (∀ U, Below wr.heap.size wr U → Calls Tryz.prog 112 #[.int .i64 room, .slice none 0 0] U fun e w' => ∃ v, e = .returned v ∧ ∃ T, v = .pointer (some ⟨T, 0, none⟩) ∧ TaskListAt (fun b => wr.heap.size ≤ b) w' T room [] ∧ Below wr.heap.size wr w') := fun U hU => by
        refine (tasksNew_calls room (.slice none 0 0) [] U (ListAt.nil _ _ _) (by simp)).mono ?_
        rintro e w' ⟨T, tv, rfl, h1, h2, h3, h4⟩
        have := hU.size
        exact ⟨_, rfl, T, rfl, ⟨tv, h1, by omega, ownsRow_base h3 (Nat.zero_le _), fun g e => by have := (h3.lt g e).1; omega⟩, hU.trans (h4.mono hU.size)⟩
      have HNL : Hid (∀ U, Below wr.heap.size wr U → Calls Tryz.prog 113 #[.int .i64 k, .int .i64 n] U fun e w' => ∃ v, e = .returned v ∧ ∃ g partL, v = .slice (some ⟨g, 0, none⟩) n n ∧ (∀ b, partL b ≠ 0 → U.heap.size ≤ b ∧ (partL b = 9 ∨ (100 + 10 * k ≤ partL b ∧ partL b < 100 + 10 * k + n))) ∧ XLinksAt partL k w' (.slice (some ⟨g, 0, none⟩) n n) (List.replicate n link0) ∧ Below U.heap.size U w' ∧ Below wr.heap.size wr w') := fun U hU => by
        refine (newLinks_calls k n U hn5 hlt).mono ?_
        rintro e w' ⟨g, partL, rfl, hpL, hL, h1⟩
        exact ⟨_, rfl, g, partL, rfl, hpL, hL, h1, hU.trans (h1.mono hU.size)⟩
      go_upto_region 5 with fail
      go_region_law (first
        | (refine step_call2 (by rfl) 112 _ _ _ (by rfl) (.int .i64 room) (.slice none 0 0) (by rfl) (by rfl) (enters_of Tryz.func112 (by kernel_rfl) rfl) (HNW.out _ (by first | assumption | exact Below.refl _ _ | exact (Below.refl _ _).drew | exact Below.drew (by assumption))) ?_; rintro v8 w8 ⟨T, rfl, ht8, hb8⟩; have hC8 := HCr.out.below hb8 HCr.out.lt; have d0 := hC8.cell (o := 0) rfl; have d1 := hC8.cell (o := 1) rfl)
        | (refine step_call2 (by rfl) 113 _ _ _ (by rfl) (.int .i64 k) (.int .i64 n) (by rfl) (by rfl) (enters_of Tryz.func113 (by kernel_rfl) rfl) (HNL.out _ (by first | assumption | exact Below.refl _ _ | exact (Below.refl _ _).drew | exact Below.drew (by assumption))) ?_; rintro v9 w9 ⟨g9, partL, rfl, hpL, hL9, hU9, hb9⟩; have hx9 := HBOX.out.below hb9 HBOX.out.lt; obtain ⟨o0, ho0⟩ := get_some (cs := cu) (i := k * 4) (by rw [HCZ.out]; omega); obtain ⟨o1, ho1⟩ := get_some (cs := cu) (i := k * 4 + 1) (by rw [HCZ.out]; omega); obtain ⟨o2, ho2⟩ := get_some (cs := cu) (i := k * 4 + 2) (by rw [HCZ.out]; omega); obtain ⟨o3, ho3⟩ := get_some (cs := cu) (i := k * 4 + 3) (by rw [HCZ.out]; omega); have y0 := hx9.cell ho0; have y1 := hx9.cell ho1; have y2 := hx9.cell ho2; have y3 := hx9.cell ho3; have z0 := hx9.frozen (k * 4); have z1 := hx9.frozen (k * 4 + 1); have z2 := hx9.frozen (k * 4 + 2); have z3 := hx9.frozen (k * 4 + 3); clear ho0 ho1 ho2 ho3))
      all_goals
        go_wp2_with fail
        go_roundw
        case rel =>
          obtain ⟨W9, hW9⟩ : ∃ W9, (((w9.setCell ⟨G, k * 4, none⟩ (.pointer (some ⟨T, 0, none⟩))).setCell ⟨G, k * 4 + 1, none⟩ (.slice (some ⟨g9, 0, none⟩) n n)).setCell ⟨G, k * 4 + 2, none⟩ (.int .i64 0)).setCell ⟨G, k * 4 + 3, none⟩ (.bool false) = W9 := ⟨_, rfl⟩
          have hbox9 : BoxAt W9 G 135 ((((cu.setIfInBounds (k * 4) (.pointer (some ⟨T, 0, none⟩))).setIfInBounds (k * 4 + 1) (.slice (some ⟨g9, 0, none⟩) n n)).setIfInBounds (k * 4 + 2) (.int .i64 0)).setIfInBounds (k * 4 + 3) (.bool false)) := by rw [← hW9]; exact (((hx9.setAt _ _).setAt _ _).setAt _ _).setAt _ _
          have k99 : Kept (· = G) w9 W9 := by rw [← hW9]; exact ((((Kept.refl _ _).setCell (.inl (by rfl)) _).setCell (.inl (by rfl)) _).setCell (.inl (by rfl)) _).setCell (.inl (by rfl)) _
          have kr9 : Kept (· = G) wr W9 := (Kept.of_below hb9 (X := (· = G)) (fun b h1 h2 => by omega)).andThen k99 (fun b _ h => h)
          have s8 := hb8.size
          have s9 := hU9.size
          have hT9 : TaskListAt (fun b => wr.heap.size ≤ b ∧ b < w8.heap.size) w9 T room [] := ht8.kept (Kept.of_below hU9 (X := fun b => w8.heap.size ≤ b) (fun _ _ h => h)) (fun g hg h => ⟨by omega, h, hg⟩)
          have hGr := HBOX.out.lt
          rw [hW9]
          refine ⟨k + 1, fun b => if b < wr.heap.size then part b else if b < w8.heap.size then 10 + k else partL b, _, xs ++ [(T, .slice (some ⟨g9, 0, none⟩) n n, 0, false)], by omega, by go_num, hbox9, by simp [HCZ.out], by rw [List.length_append, HXL.out]; rfl, fun j x i u hx hu => ?_, fun b hb => ?_, fun i x hx => ?_, HKW.out.trans kr9⟩
          · rcases get_snoc hx with ⟨hj, hx'⟩ | ⟨hj, rfl⟩
            · have h1 := HXC.out j x i u hx' hu
              have hi3 : i < 4 := (List.getElem?_eq_some_iff.1 hu).1
              have hjk : j < k := by have := HXL.out; omega
              rw [Array.getElem?_setIfInBounds_ne (by omega), Array.getElem?_setIfInBounds_ne (by omega), Array.getElem?_setIfInBounds_ne (by omega), Array.getElem?_setIfInBounds_ne (by omega)]
              exact h1
            · rw [HXL.out] at hj
              subst hj
              have hcz := HCZ.out
              match i, hu with
              | 0, hu => cases hu; rw [show j * 4 + 0 = j * 4 from rfl, Array.getElem?_setIfInBounds_ne (by omega), Array.getElem?_setIfInBounds_ne (by omega), Array.getElem?_setIfInBounds_ne (by omega), Array.getElem?_setIfInBounds_self_of_lt (by omega)]
              | 1, hu => cases hu; rw [Array.getElem?_setIfInBounds_ne (by omega), Array.getElem?_setIfInBounds_ne (by omega), Array.getElem?_setIfInBounds_self_of_lt (by simp; omega)]
              | 2, hu => cases hu; rw [Array.getElem?_setIfInBounds_ne (by omega), Array.getElem?_setIfInBounds_self_of_lt (by simp; omega)]
              | 3, hu => cases hu; rw [Array.getElem?_setIfInBounds_self_of_lt (by simp; omega)]
              | (m + 4), hu => simp [xwEnc] at hu
          · dsimp only at hb ⊢
            by_cases h : b < wr.heap.size
            · rw [if_pos h] at hb ⊢
              exact HPT.out b hb
            · rw [if_neg h] at hb ⊢
              by_cases h8 : b < w8.heap.size
              · rw [if_pos h8]; exact ⟨by omega, by omega⟩
              · rw [if_neg h8] at hb ⊢
                have := (hpL b hb).2
                exact ⟨by omega, by omega⟩
          · rcases get_snoc hx with ⟨hj, hx'⟩ | ⟨hj, rfl⟩
            · obtain ⟨q1, q2, q3⟩ := HTL.out i x hx'
              exact ⟨q1, q2.kept kr9 (fun g hg h => ⟨fun h' => by have := HPT.out g (by omega); omega, (if_pos hg).trans h⟩), q3.kept kr9 (fun g hg h => ⟨fun h' => by have := HPT.out g (by omega); omega, if_pos hg⟩)⟩
            · rw [HXL.out] at hj
              subst hj
              refine ⟨rfl, hT9.kept k99 (fun g hg h => ⟨fun h' => by omega, (if_neg (by omega)).trans (if_pos h.2)⟩), hL9.kept k99 (fun g hg h => ?_)⟩
              have := hpL g (by omega)
              exact ⟨fun h' => by omega, (if_neg (by omega)).trans (if_neg (by omega))⟩
        case measure => simp [intOf]; omega
    · obtain rfl : n = k := by omega
      have t0 := HTr.out.cell (o := 0) rfl
      have t1 := HTr.out.cell (o := 1) rfl
      have t2 := HTr.out.cell (o := 2) rfl
      obtain ⟨w4, hw4⟩ : ∃ w4, wr.alloc (Obj.cells #[.string t.id, .int .i64 t.kind, .int .i64 t.arg] 76) = w4 := ⟨_, rfl⟩
      have hb4 : Below wr.heap.size wr w4 := by rw [← hw4]; exact (Below.refl _ _).alloc (Nat.le_refl _) _
      have sz4 : w4.heap.size = wr.heap.size + 1 := by rw [← hw4]; simp
      have hL4 : ListAt 3 taskEnc w4 (.slice (some ⟨wr.heap.size, 0, none⟩) 1 1) [t] := by
        have hb := BoxAt.new wr 76 #[.string t.id, .int .i64 t.kind, .int .i64 t.arg]
        rw [hw4] at hb
        refine ⟨_, _, rfl, fun j x hx => ?_⟩
        cases j with
        | succ j => simp at hx
        | zero =>
          cases hx
          refine ⟨wr.heap.size, 0, rfl, hb.lt, fun i u hi => ?_⟩
          rw [show 0 + 0 * 3 + i = i from by omega]
          match i, hi with
          | 0, hi => cases hi; exact hb.cell (o := 0) rfl
          | 1, hi => cases hi; exact hb.cell (o := 1) rfl
          | 2, hi => cases hi; exact hb.cell (o := 2) rfl
          | (m + 3), hi => simp [taskEnc] at hi
      have HNT := hid_of (tasksNew_calls room (.slice (some ⟨wr.heap.size, 0, none⟩) 1 1) [t] w4 hL4 (by simp))
      have HB4 := hid_of hb4
      clear hL4 hb4
      have hGr := HBOX.out.lt
      go_wp2_with (go_at_call 112; refine HNT.out.mono ?_; rintro e w5 ⟨T, tv, rfl, hT5, hT5l, hrow5, hb5⟩; have hx5 := (HBOX.out.below HB4.out hGr).below hb5 (by omega); obtain ⟨o0, ho0⟩ := get_some (cs := cu) (i := 0) (by rw [HCZ.out]; omega); have y0 := hx5.cell ho0; have z0 := hx5.frozen 0)
      go_ret
      have hbw5 : Below wr.heap.size wr w5 := HB4.out.trans (hb5.mono (by omega))
      have k56 : Kept (· = G) w5 (w5.setCell ⟨G, 0, none⟩ (.pointer (some ⟨T, 0, none⟩))) := (Kept.refl _ _).setCell (.inl (by rfl)) _
      have kr6 : Kept (· = G) wr (w5.setCell ⟨G, 0, none⟩ (.pointer (some ⟨T, 0, none⟩))) := (Kept.of_below hbw5 (X := (· = G)) (fun b h1 h2 => by omega)).andThen k56 (fun b _ h => h)
      have hsz5 := hbw5.size
      obtain ⟨x0, hx0⟩ : ∃ x, xs[0]? = some x := ⟨_, List.getElem?_eq_getElem (by have := HXL.out; omega)⟩
      have hxl0 : 0 < xs.length := (List.getElem?_eq_some_iff.1 hx0).1
      have hT5w := hT5.lt
      have hcells : ∀ j x i u, (xs.set 0 (T, x0.2))[j]? = some x → (xwEnc x)[i]? = some u → (cu.setIfInBounds 0 (.pointer (some ⟨T, 0, none⟩)))[j * 4 + i]? = some u := fun j x i u hx hu => by
        cases j with
        | zero =>
          rw [List.getElem?_set_self hxl0] at hx
          cases hx
          match i, hu with
          | 0, hu => cases hu; rw [Array.getElem?_setIfInBounds_self_of_lt (by rw [HCZ.out]; omega)]
          | (m + 1), hu =>
            rw [Array.getElem?_setIfInBounds_ne (by omega)]
            exact HXC.out 0 x0 (m + 1) u hx0 (by simpa [xwEnc] using hu)
        | succ j =>
          rw [List.getElem?_set_ne (by omega)] at hx
          rw [Array.getElem?_setIfInBounds_ne (by omega)]
          exact HXC.out (j + 1) x i u hx hu
      refine ⟨fun b => if b = G then 7 else if b < wr.heap.size then part b else if b < w5.heap.size then 10 else 0, G, xs.set 0 (T, x0.2), rfl, fun b hb => ?_, ⟨?_, fun g e => ?_⟩, by rw [List.length_set]; exact HXL.out, fun i x hx => ?_, ?_⟩
      · dsimp only at hb ⊢
        by_cases h : b = G
        · rw [if_pos h]; exact ⟨by omega, by simp; omega, by omega⟩
        · rw [if_neg h] at hb ⊢
          by_cases h' : b < wr.heap.size
          · rw [if_pos h'] at hb ⊢
            have := HPT.out b hb
            exact ⟨by omega, by simp; omega, by omega⟩
          · rw [if_neg h'] at hb ⊢
            by_cases h'' : b < w5.heap.size
            · rw [if_pos h'']; exact ⟨by omega, by simp; omega, by omega⟩
            · rw [if_neg h''] at hb; exact absurd rfl hb
      · have := row_of_cells (base := 0) (n := n) (sz := 4) (enc := xwEnc) (by omega) (fun _ => rfl) (hx5.setAt 0 (.pointer (some ⟨T, 0, none⟩))) (Nat.zero_le _) (by simp [HCZ.out]) (by rw [List.length_set]; exact HXL.out) (by unfold maxLen; omega) hcells
        rw [List.length_set, HXL.out]
        exact this
      · simp [Value.ownBlock] at e
        exact if_pos e.symm
      · cases i with
        | zero =>
          rw [List.getElem?_set_self hxl0] at hx
          cases hx
          refine ⟨(HTL.out 0 x0 hx0).1, ⟨tv, hT5.kept k56 (by omega), ?_, row_kept (ownsRow_base hrow5 (Nat.zero_le _)) k56 (fun g e h => ?_) (Nat.le_refl _), fun g e => ?_⟩, (HTL.out 0 x0 hx0).2.2.kept kr6 (fun g hg h => ⟨fun h' => by have := HPT.out g (by omega); omega, (if_neg (by have := HPT.out g (by omega); omega)).trans (if_pos hg)⟩)⟩
          · exact (if_neg (by omega)).trans ((if_neg (by omega)).trans (if_pos hT5w))
          · have := (hrow5.lt g e).1; omega
          · have := hrow5.lt g e
            exact (if_neg (by omega)).trans ((if_neg (by omega)).trans (if_pos (by omega)))
        | succ i =>
          rw [List.getElem?_set_ne (by omega)] at hx
          obtain ⟨q1, q2, q3⟩ := HTL.out (i + 1) x hx
          rw [if_neg (by omega)]
          exact ⟨q1, q2.kept kr6 (fun g hg h => ⟨fun h' => by have := HPT.out g (by omega); omega, (if_neg (by have := HPT.out g (by omega); omega)).trans ((if_pos hg).trans h)⟩), q3.kept kr6 (fun g hg h => ⟨fun h' => by have := HPT.out g (by omega); omega, (if_neg (by have := HPT.out g (by omega); omega)).trans (if_pos hg)⟩)⟩
      · exact HBW1.out.trans ((HKW.out.trans kr6).below (by have := HBW1.out.size; omega) (fun b h => by omega))
end Go.Proofs.YtdbbejedipfckaaGreatDoor
