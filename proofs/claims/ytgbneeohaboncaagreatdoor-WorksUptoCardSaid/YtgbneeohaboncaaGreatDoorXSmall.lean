/-
  The project's small makers: copies of lists, whether there may be a run of such numbers, the first task.
-/
import Derived.Test.YtgbneeohaboncaaGreatDoorRefNew2
import Derived.Lib.LazyBuf
namespace Go.Proofs.YtgbneeohaboncaaGreatDoor
open Go Go.RowKit

theorem eqlKids (a : Option Addr) (l c : Nat) (w : World) : (binOp .eql 109 (.slice a l c) (.slice none 0 0)).run Tryz.prog w = .ok (.bool a.isNone) w := run_eql_slice_nil w _ _ a l c Tryz.underlying109
theorem eqlKinds (a : Option Addr) (l c : Nat) (w : World) : (binOp .eql 40 (.slice a l c) (.slice none 0 0)).run Tryz.prog w = .ok (.bool a.isNone) w := run_eql_slice_nil w _ _ a l c Tryz.underlying40
theorem eqlTasks (a : Option Addr) (l c : Nat) (w : World) : (binOp .eql 52 (.slice a l c) (.slice none 0 0)).run Tryz.prog w = .ok (.bool a.isNone) w := run_eql_slice_nil w _ _ a l c Tryz.underlying52
attribute [local go_sem] eqlKids eqlKinds eqlTasks
def kidEnc (c : KidS) : List Value := [.int .i64 c.kind, .int .i64 c.less]
def kindEnc (p : KindS × Value) : List Value := [.int .i64 p.1.A, .int .i64 p.1.B, p.2]
theorem kidEnc_one (x : KidS) : ∀ u ∈ kidEnc x, u.oneCell' = true := by simp [kidEnc, Value.oneCell']
/-- A program's kinds as a list of cells, each with its kids. -/
theorem kinds_list {ok : Nat → Prop} {W : World} {v : Value} {ks : List KindS} (h : KindsAt ok W v ks) : ∃ l : List (KindS × Value), l.map Prod.fst = ks ∧ ListAt 3 kindEnc W v l ∧ ∀ p ∈ l, KidsAt ok W p.2 p.1.kids := by
  obtain ⟨a, cap, rfl, hc⟩ := h
  have key : ∀ n, n ≤ ks.length → ∃ l : List (KindS × Value), l.map Prod.fst = ks.take n ∧ (∀ j x, l[j]? = some x → ∃ g o, a = some ⟨g, o, none⟩ ∧ g < W.heap.size ∧ ∀ i u, (kindEnc x)[i]? = some u → W.cell? ⟨g, o + j * 3 + i, none⟩ = some u) ∧ ∀ p ∈ l, KidsAt ok W p.2 p.1.kids := by
    intro n
    induction n with
    | zero => exact fun _ => ⟨[], by simp, by simp, by simp⟩
    | succ n ih =>
      intro hn
      obtain ⟨l, h1, h2, h3⟩ := ih (by omega)
      have hl : l.length = n := by have := congrArg List.length h1; simp at this; omega
      obtain ⟨c, hcc⟩ : ∃ c, ks[n]? = some c := ⟨_, List.getElem?_eq_getElem (by omega)⟩
      obtain ⟨b, o, kv, ha, hok, hb, c0, c1, c2, hk⟩ := hc n c hcc
      refine ⟨l ++ [(c, kv)], ?_, fun j x hx => ?_, fun p hp => ?_⟩
      · rw [List.map_append, h1, List.take_add_one, hcc]; rfl
      · rcases get_snoc hx with ⟨_, hx'⟩ | ⟨hj, rfl⟩
        · exact h2 j x hx'
        · rw [hl] at hj
          subst hj
          refine ⟨b, o, ha, hb, fun i u hi => ?_⟩
          match i, hi with
          | 0, hi => cases hi; exact c0
          | 1, hi => cases hi; exact c1
          | 2, hi => cases hi; exact c2
          | (m + 3), hi => simp [kindEnc] at hi
      · rcases List.mem_append.1 hp with h | h
        · exact h3 p h
        · simp only [List.mem_singleton] at h
          subst h
          exact hk
  obtain ⟨l, h1, h2, h3⟩ := key ks.length (Nat.le_refl _)
  rw [List.take_length] at h1
  have hl : l.length = ks.length := by rw [← h1]; simp
  exact ⟨l, h1, ⟨a, cap, by rw [hl], h2⟩, h3⟩
theorem kids_list {ok : Nat → Prop} {W : World} {v : Value} {l : List KidS} (h : KidsAt ok W v l) : ListAt 2 kidEnc W v l := by
  obtain ⟨a, cap, rfl, hc⟩ := h
  refine ⟨a, cap, rfl, fun j x hx => ?_⟩
  obtain ⟨b, o, ha, hok, hb, c0, c1⟩ := hc j x hx
  refine ⟨b, o, ha, hb, fun i u hi => ?_⟩
  match i, hi with
  | 0, hi => cases hi; exact c0
  | 1, hi => cases hi; exact c1
  | (m + 2), hi => simp [kidEnc] at hi

set_option maxHeartbeats 1000000 in
set_option maxRecDepth 100000 in
theorem cloneD_calls (v : Value) (l : List KidS) (w : World) (hv : ListAt 2 kidEnc w v l) (hl : l.length ≤ 1000000) :
    Calls Tryz.prog 101 #[v] w fun e w' => ∃ v', e = .returned v' ∧ w'.ownsRow w.heap.size 108 2 v' l.length (l.flatMap kidEnc) ∧ Below w.heap.size w w' := by
  obtain ⟨i1, hi1, hy0, hy1, hy2⟩ := info_parts infoKid
  obtain ⟨a, cap, rfl, hc⟩ := hv
  cases a with
  | none =>
    have hl0 : l = [] := by
      cases l with
      | nil => rfl
      | cons x r => obtain ⟨g, o, e, _⟩ := hc 0 x rfl; cases e
    subst hl0
    go_enter Tryz.func101, Tryz.ntmps101
    go_wp2_with fail
    go_ret
    exact ⟨_, rfl, World.ownsRow_nil _ _ _ _, Below.refl _ _⟩
  | some ad =>
    have HN : Hid (∀ j u, (l.flatMap kidEnc)[j]? = some u → ∃ b, (some ad : Option Addr) = some b ∧ (w.alloc (Obj.cells #[] 108)).cell? (b.add j) = some u) := fun j u hj => by
      have hlt : j < l.length * 2 := by rw [← flat_length (sz := 2) (enc := kidEnc) (fun _ => rfl) l]; exact (List.getElem?_eq_some_iff.1 hj).1
      obtain ⟨x, hx⟩ : ∃ x, l[j / 2]? = some x := ⟨_, List.getElem?_eq_getElem (by omega)⟩
      obtain ⟨u', hu'⟩ : ∃ u', (kidEnc x)[j % 2]? = some u' := ⟨_, List.getElem?_eq_getElem (by show j % 2 < 2; omega)⟩
      have h1 := flat_get (sz := 2) (enc := kidEnc) (fun _ => rfl) l _ x _ u' hx hu'
      rw [show j / 2 * 2 + j % 2 = j from by omega, hj] at h1
      obtain ⟨g, o, e, hg, hcc⟩ := hc _ x hx
      cases e
      have h2 := hcc _ u' hu'
      rw [Nat.add_assoc, show j / 2 * 2 + j % 2 = j from by omega] at h2
      cases h1
      have hadd : (⟨g, o, none⟩ : Addr).add j = ⟨g, o + j, none⟩ := by unfold Addr.add; split <;> simp_all
      exact ⟨_, rfl, by rw [hadd]; exact cell_alloc _ h2⟩
    have HE : Hid ((w.alloc (Obj.cells #[] 108)).ownsRow w.heap.size 108 2 (.slice (some ⟨w.heap.size, 0, none⟩) 0 0) 0 []) := World.ownsRow_lit (base := w.heap.size) (e := 108) (size := 2) w #[] 0 (Nat.le_refl _) (by unfold maxLen; omega) rfl
    have HL : Hid ((l.flatMap kidEnc).length = l.length * 2) := flat_length (sz := 2) (enc := kidEnc) (fun _ => rfl) l
    clear hc
    go_enter Tryz.func101, Tryz.ntmps101
    go_wp2_with (at_builtin; refine wpList_append_any rfl _ _ _ rfl w.heap.size 108 i1 _ 2 16 Tryz.underlying109 hi1 hy0 hy1 hy2 rfl (by omega) (.slice (some ⟨w.heap.size, 0, none⟩) 0 0) 0 [] rfl HE.out (some ad) l.length cap (l.flatMap kidEnc) rfl HL.out HN.out (flat_one kidEnc_one _) (by unfold maxLen; omega) (by omega) (by simp) ?_; intro v3 w3 hown3 hgrow3; rw [Nat.zero_add, List.nil_append] at hown3; obtain ⟨a3, c3, rfl⟩ := row_form hown3)
    go_ret
    refine ⟨_, rfl, hown3, ?_⟩
    exact ((Below.refl _ _).alloc (Nat.le_refl _) _).trans ((Kept.grown hgrow3 (X := fun b => w.heap.size ≤ b) (fun r e => by simp [Value.ownBlock] at e; omega)).below (by simp) (fun _ h => h))
set_option maxHeartbeats 1000000 in
set_option maxRecDepth 100000 in
theorem cloneT_calls (v : Value) (l : List TaskS) (w : World) (hv : ListAt 3 taskEnc w v l) (hl : l.length ≤ 1000000) :
    Calls Tryz.prog 123 #[v] w fun e w' => ∃ v', e = .returned v' ∧ w'.ownsRow w.heap.size 76 3 v' l.length (l.flatMap taskEnc) ∧ Below w.heap.size w w' := by
  obtain ⟨i1, hi1, hy0, hy1, hy2⟩ := info_parts infoTask
  obtain ⟨a, cap, rfl, hc⟩ := hv
  cases a with
  | none =>
    have hl0 : l = [] := by
      cases l with
      | nil => rfl
      | cons x r => obtain ⟨g, o, e, _⟩ := hc 0 x rfl; cases e
    subst hl0
    go_enter Tryz.func123, Tryz.ntmps123
    go_wp2_with fail
    go_ret
    exact ⟨_, rfl, World.ownsRow_nil _ _ _ _, Below.refl _ _⟩
  | some ad =>
    have HN : Hid (∀ j u, (l.flatMap taskEnc)[j]? = some u → ∃ b, (some ad : Option Addr) = some b ∧ (w.alloc (Obj.cells #[] 76)).cell? (b.add j) = some u) := fun j u hj => by
      have hlt : j < l.length * 3 := by rw [← flat_length (sz := 3) (enc := taskEnc) (fun _ => rfl) l]; exact (List.getElem?_eq_some_iff.1 hj).1
      obtain ⟨x, hx⟩ : ∃ x, l[j / 3]? = some x := ⟨_, List.getElem?_eq_getElem (by omega)⟩
      obtain ⟨u', hu'⟩ : ∃ u', (taskEnc x)[j % 3]? = some u' := ⟨_, List.getElem?_eq_getElem (by show j % 3 < 3; omega)⟩
      have h1 := flat_get (sz := 3) (enc := taskEnc) (fun _ => rfl) l _ x _ u' hx hu'
      rw [show j / 3 * 3 + j % 3 = j from by omega, hj] at h1
      obtain ⟨g, o, e, hg, hcc⟩ := hc _ x hx
      cases e
      have h2 := hcc _ u' hu'
      rw [Nat.add_assoc, show j / 3 * 3 + j % 3 = j from by omega] at h2
      cases h1
      have hadd : (⟨g, o, none⟩ : Addr).add j = ⟨g, o + j, none⟩ := by unfold Addr.add; split <;> simp_all
      exact ⟨_, rfl, by rw [hadd]; exact cell_alloc _ h2⟩
    have HE : Hid ((w.alloc (Obj.cells #[] 76)).ownsRow w.heap.size 76 3 (.slice (some ⟨w.heap.size, 0, none⟩) 0 0) 0 []) := World.ownsRow_lit (base := w.heap.size) (e := 76) (size := 3) w #[] 0 (Nat.le_refl _) (by unfold maxLen; omega) rfl
    have HL : Hid ((l.flatMap taskEnc).length = l.length * 3) := flat_length (sz := 3) (enc := taskEnc) (fun _ => rfl) l
    clear hc
    go_enter Tryz.func123, Tryz.ntmps123
    go_wp2_with (at_builtin; refine wpList_append_any rfl _ _ _ rfl w.heap.size 76 i1 _ 3 32 Tryz.underlying52 hi1 hy0 hy1 hy2 rfl (by omega) (.slice (some ⟨w.heap.size, 0, none⟩) 0 0) 0 [] rfl HE.out (some ad) l.length cap (l.flatMap taskEnc) rfl HL.out HN.out (flat_one taskEnc_one _) (by unfold maxLen; omega) (by omega) (by simp) ?_; intro v3 w3 hown3 hgrow3; rw [Nat.zero_add, List.nil_append] at hown3; obtain ⟨a3, c3, rfl⟩ := row_form hown3)
    go_ret
    refine ⟨_, rfl, hown3, ?_⟩
    exact ((Below.refl _ _).alloc (Nat.le_refl _) _).trans ((Kept.grown hgrow3 (X := fun b => w.heap.size ≤ b) (fun r e => by simp [Value.ownBlock] at e; omega)).below (by simp) (fun _ h => h))
set_option maxHeartbeats 1000000 in
set_option maxRecDepth 100000 in
theorem cloneK_calls (v : Value) (l : List (KindS × Value)) (w : World) (hv : ListAt 3 kindEnc w v l) (hl : l.length ≤ 1000000) (h1 : ∀ p ∈ l, p.2.oneCell' = true) :
    Calls Tryz.prog 100 #[v] w fun e w' => ∃ v', e = .returned v' ∧ w'.ownsRow w.heap.size 111 3 v' l.length (l.flatMap kindEnc) ∧ Below w.heap.size w w' := by
  obtain ⟨i1, hi1, hy0, hy1, hy2⟩ := info_parts infoKind
  obtain ⟨a, cap, rfl, hc⟩ := hv
  cases a with
  | none =>
    have hl0 : l = [] := by
      cases l with
      | nil => rfl
      | cons x r => obtain ⟨g, o, e, _⟩ := hc 0 x rfl; cases e
    subst hl0
    go_enter Tryz.func100, Tryz.ntmps100
    go_wp2_with fail
    go_ret
    exact ⟨_, rfl, World.ownsRow_nil _ _ _ _, Below.refl _ _⟩
  | some ad =>
    have HN : Hid (∀ j u, (l.flatMap kindEnc)[j]? = some u → ∃ b, (some ad : Option Addr) = some b ∧ (w.alloc (Obj.cells #[] 111)).cell? (b.add j) = some u) := fun j u hj => by
      have hlt : j < l.length * 3 := by rw [← flat_length (sz := 3) (enc := kindEnc) (fun _ => rfl) l]; exact (List.getElem?_eq_some_iff.1 hj).1
      obtain ⟨x, hx⟩ : ∃ x, l[j / 3]? = some x := ⟨_, List.getElem?_eq_getElem (by omega)⟩
      obtain ⟨u', hu'⟩ : ∃ u', (kindEnc x)[j % 3]? = some u' := ⟨_, List.getElem?_eq_getElem (by show j % 3 < 3; omega)⟩
      have h1 := flat_get (sz := 3) (enc := kindEnc) (fun _ => rfl) l _ x _ u' hx hu'
      rw [show j / 3 * 3 + j % 3 = j from by omega, hj] at h1
      obtain ⟨g, o, e, hg, hcc⟩ := hc _ x hx
      cases e
      have h2 := hcc _ u' hu'
      rw [Nat.add_assoc, show j / 3 * 3 + j % 3 = j from by omega] at h2
      cases h1
      have hadd : (⟨g, o, none⟩ : Addr).add j = ⟨g, o + j, none⟩ := by unfold Addr.add; split <;> simp_all
      exact ⟨_, rfl, by rw [hadd]; exact cell_alloc _ h2⟩
    have HE : Hid ((w.alloc (Obj.cells #[] 111)).ownsRow w.heap.size 111 3 (.slice (some ⟨w.heap.size, 0, none⟩) 0 0) 0 []) := World.ownsRow_lit (base := w.heap.size) (e := 111) (size := 3) w #[] 0 (Nat.le_refl _) (by unfold maxLen; omega) rfl
    have HL : Hid ((l.flatMap kindEnc).length = l.length * 3) := flat_length (sz := 3) (enc := kindEnc) (fun _ => rfl) l
    have H1 : Hid (∀ u ∈ l.flatMap kindEnc, u.oneCell' = true) := fun u hu => by
      obtain ⟨x, hx, hux⟩ := List.mem_flatMap.1 hu
      simp [kindEnc] at hux
      rcases hux with rfl | rfl | rfl
      · rfl
      · rfl
      · exact h1 x hx
    clear hc
    go_enter Tryz.func100, Tryz.ntmps100
    go_wp2_with (at_builtin; refine wpList_append_any rfl _ _ _ rfl w.heap.size 111 i1 _ 3 40 Tryz.underlying40 hi1 hy0 hy1 hy2 rfl (by omega) (.slice (some ⟨w.heap.size, 0, none⟩) 0 0) 0 [] rfl HE.out (some ad) l.length cap (l.flatMap kindEnc) rfl HL.out HN.out H1.out (by unfold maxLen; omega) (by omega) (by simp) ?_; intro v3 w3 hown3 hgrow3; rw [Nat.zero_add, List.nil_append] at hown3; obtain ⟨a3, c3, rfl⟩ := row_form hown3)
    go_ret
    refine ⟨_, rfl, hown3, ?_⟩
    exact ((Below.refl _ _).alloc (Nat.le_refl _) _).trans ((Kept.grown hgrow3 (X := fun b => w.heap.size ≤ b) (fun r e => by simp [Value.ownBlock] at e; omega)).below (by simp) (fun _ h => h))
set_option maxHeartbeats 1000000 in
set_option maxRecDepth 100000 in
theorem isConfig_calls (workers room mode : Int) (w : World) :
    Calls Tryz.prog 66 #[.agg #[.int .i64 workers, .int .i64 room, .int .i64 mode]] w fun e w' => e = .returned (.bool (cfgB workers room mode)) ∧ Below w.heap.size w w' := by
  have hcfg : cfgB workers room mode = ((decide (2 ≤ workers) && decide (workers ≤ 5)) && (decide (1 ≤ room) && decide (room ≤ 20)) && ((mode == 1) || (mode == 2))) := by
    have e1 : decide (mode = 1) = (mode == 1) := by rw [Bool.eq_iff_iff]; simp
    have e2 : decide (mode = 2) = (mode == 2) := by rw [Bool.eq_iff_iff]; simp
    unfold cfgB
    rw [e1, e2]
    simp [Bool.and_assoc]
  obtain ⟨V, hV⟩ : ∃ V, w.alloc (Obj.cells #[.int .i64 workers, .int .i64 room, .int .i64 mode] 39) = V := ⟨_, rfl⟩
  have hb : Below w.heap.size w V := by rw [← hV]; exact (Below.refl _ _).alloc (Nat.le_refl _) _
  have bC : BoxAt V w.heap.size 39 #[.int .i64 workers, .int .i64 room, .int .i64 mode] := by rw [← hV]; exact BoxAt.new w _ _
  have c0 := bC.cell (o := 0) rfl
  have c1 := bC.cell (o := 1) rfl
  have c2 := bC.cell (o := 2) rfl
  have HB := hid_of hb
  obtain ⟨res, hres⟩ : ∃ res, cfgB workers room mode = res := ⟨_, rfl⟩
  rw [hres]
  rw [hres] at hcfg
  have HC := hid_of hcfg
  clear hb hcfg bC hres
  go_enter Tryz.func66, Tryz.ntmps66
  go_upto_region 1 with fail
  clear hV
  go_cut [3] (fun b wx => b = .bool (decide (2 ≤ workers) && decide (workers ≤ 5)) ∧ V = wx)
  case first =>
    by_cases h1 : 2 ≤ workers
    · by_cases h2 : workers ≤ 5
      · go_wp2_with fail
        go_meet
        case rel => exact ⟨by rw [decide_eq_true h1, decide_eq_true h2]; rfl, rfl⟩
      · go_wp2_with fail
        go_meet
        case rel => exact ⟨by rw [decide_eq_true h1, decide_eq_false (show ¬ workers ≤ 5 by omega)]; rfl, rfl⟩
    · go_wp2_with fail
      go_meet
      case rel => exact ⟨by rw [decide_eq_false (show ¬ 2 ≤ workers by omega)]; rfl, rfl⟩
  case rest =>
    obtain ⟨rfl, rfl⟩ := hcut
    obtain ⟨x1, hx1⟩ : ∃ x1, (decide (2 ≤ workers) && decide (workers ≤ 5)) = x1 := ⟨_, rfl⟩
    rw [hx1] at HC ⊢
    clear hx1
    go_upto_region 2 with fail
    go_cut [4] (fun b wx => b = .bool (decide (1 ≤ room) && decide (room ≤ 20)) ∧ V = wx)
    case first =>
      by_cases h1 : 1 ≤ room
      · by_cases h2 : room ≤ 20
        · go_wp2_with fail
          go_meet
          case rel => exact ⟨by rw [decide_eq_true h1, decide_eq_true h2]; rfl, rfl⟩
        · go_wp2_with fail
          go_meet
          case rel => exact ⟨by rw [decide_eq_true h1, decide_eq_false (show ¬ room ≤ 20 by omega)]; rfl, rfl⟩
      · go_wp2_with fail
        go_meet
        case rel => exact ⟨by rw [decide_eq_false (show ¬ 1 ≤ room by omega)]; rfl, rfl⟩
    case rest =>
      obtain ⟨rfl, rfl⟩ := hcut
      obtain ⟨x2, hx2⟩ : ∃ x2, (decide (1 ≤ room) && decide (room ≤ 20)) = x2 := ⟨_, rfl⟩
      rw [hx2] at HC ⊢
      clear hx2
      go_upto_region 3 with fail
      go_cut [5] (fun b wx => b = .bool ((mode == 1) || (mode == 2)) ∧ V = wx)
      case first =>
        cases h1 : (mode == 1)
        · go_wp2_with fail
          go_meet
          case rel => exact ⟨by rw [h1]; rfl, rfl⟩
        · go_wp2_with fail
          go_meet
          case rel => exact ⟨by rw [h1]; rfl, rfl⟩
      case rest =>
        obtain ⟨rfl, rfl⟩ := hcut
        obtain ⟨x3, hx3⟩ : ∃ x3, ((mode == 1) || (mode == 2)) = x3 := ⟨_, rfl⟩
        rw [hx3] at HC ⊢
        clear hx3
        cases x1 <;> cases x2
        all_goals
          go_wp2_with fail
          go_ret
          refine ⟨?_, HB.out⟩
          rw [HC.out]
          rfl
end Go.Proofs.YtgbneeohaboncaaGreatDoor
