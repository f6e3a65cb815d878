/-
  The project's small makers: copies of lists, whether there may be a run of such numbers, the first task.
-/
import Derived.Test.YtdbbejedipfckaaGreatDoorRefNew2
import Derived.Lib.LazyBuf
import Derived.Conc.SmallLaws
import Derived.Conc.LoneCalls
import Derived.RangeFuncNested
import Derived.Orders
import Derived.Test.YtdbbejedipfckaaGreatDoorLeaves
namespace Go.Proofs.YtdbbejedipfckaaGreatDoor
open Go Go.RowKit

theorem eqlKids (a : Option Addr) (l c : Nat) (w : World) : (binOp .eql 109 (.slice a l c) (.slice none 0 0)).run Tryz.prog w = .ok (.bool a.isNone) w := run_eql_slice_nil w _ _ a l c Tryz.underlying109
theorem eqlKinds (a : Option Addr) (l c : Nat) (w : World) : (binOp .eql 40 (.slice a l c) (.slice none 0 0)).run Tryz.prog w = .ok (.bool a.isNone) w := run_eql_slice_nil w _ _ a l c Tryz.underlying40
theorem eqlTasks (a : Option Addr) (l c : Nat) (w : World) : (binOp .eql 52 (.slice a l c) (.slice none 0 0)).run Tryz.prog w = .ok (.bool a.isNone) w := run_eql_slice_nil w _ _ a l c Tryz.underlying52
attribute [local go_sem] eqlKids eqlKinds eqlTasks
def kidEnc (c : KidS) : List Value := [.int .i64 c.kind, .int .i64 c.less]
def kindEnc (p : KindS × Value) : List Value := [.int .i64 p.1.A, .int .i64 p.1.B, p.2]
theorem kidEnc_one (x : KidS) : ∀ u ∈ kidEnc x, u.oneCell' = true := by simp [kidEnc, Value.oneCell']
/-- A program's kinds as a list of cells, each with its kids. -/
theorem kinds_list {ok : Nat → Prop} {W : World} {v : Value} {ks : List KindS} (h : KindsAt ok W v ks) : ∃ l : List (KindS × Value), l.map Prod.fst = ks ∧ ListAt 3 kindEnc W v l ∧ ∀ p ∈ l, KidsAt ok W p.2 p.1.kids := by
  obtain ⟨a, cap, rfl, hc⟩ := h
  have key : ∀ n, n ≤ ks.length → ∃ l : List (KindS × Value), l.map Prod.fst = ks.take n ∧ (∀ j x, l[j]? = some x → ∃ g o, a = some ⟨g, o, none⟩ ∧ g < W.heap.size ∧ ∀ i u, (kindEnc x)[i]? = some u → W.cell? ⟨g, o + j * 3 + i, none⟩ = some u) ∧ ∀ p ∈ l, KidsAt ok W p.2 p.1.kids := by
    intro n
    induction n with
    | zero => exact fun _ => ⟨[], by simp, by simp, by simp⟩
    | succ n ih =>
      intro hn
      obtain ⟨l, h1, h2, h3⟩ := ih (by omega)
      have hl : l.length = n := by have := congrArg List.length h1; simp at this; omega
      obtain ⟨c, hcc⟩ : ∃ c, ks[n]? = some c := ⟨_, List.getElem?_eq_getElem (by omega)⟩
      obtain ⟨b, o, kv, ha, hok, hb, c0, c1, c2, hk⟩ := hc n c hcc
      refine ⟨l ++ [(c, kv)], ?_, fun j x hx => ?_, fun p hp => ?_⟩
      · rw [List.map_append, h1, List.take_add_one, hcc]; rfl
      · rcases get_snoc hx with ⟨_, hx'⟩ | ⟨hj, rfl⟩
        · exact h2 j x hx'
        · rw [hl] at hj
          subst hj
          refine ⟨b, o, ha, hb, fun i u hi => ?_⟩
          match i, hi with
          | 0, hi => cases hi; exact c0
          | 1, hi => cases hi; exact c1
          | 2, hi => cases hi; exact c2
          | (m + 3), hi => simp [kindEnc] at hi
      · rcases List.mem_append.1 hp with h | h
        · exact h3 p h
        · simp only [List.mem_singleton] at h
          subst h
          exact hk
  obtain ⟨l, h1, h2, h3⟩ := key ks.length (Nat.le_refl _)
  rw [List.take_length] at h1
  have hl : l.length = ks.length := by rw [← h1]; simp
  exact ⟨l, h1, ⟨a, cap, by rw [hl], h2⟩, h3⟩
theorem kids_list {ok : Nat → Prop} {W : World} {v : Value} {l : List KidS} (h : KidsAt ok W v l) : ListAt 2 kidEnc W v l := by
  obtain ⟨a, cap, rfl, hc⟩ := h
  refine ⟨a, cap, rfl, fun j x hx => ?_⟩
  obtain ⟨b, o, ha, hok, hb, c0, c1⟩ := hc j x hx
  refine ⟨b, o, ha, hb, fun i u hi => ?_⟩
  match i, hi with
  | 0, hi => cases hi; exact c0
  | 1, hi => cases hi; exact c1
  | (m + 2), hi => simp [kidEnc] at hi

set_option maxHeartbeats 1000000 in
set_option maxRecDepth 100000 in
theorem cloneD_calls (v : Value) (l : List KidS) (w : World) (hv : ListAt 2 kidEnc w v l) (hl : l.length ≤ 1000000) :
    Calls Tryz.prog 111 #[v] w fun e w' => ∃ v', e = .returned v' ∧ w'.ownsRow w.heap.size 108 2 v' l.length (l.flatMap kidEnc) ∧ Below w.heap.size w w' := by
  obtain ⟨i1, hi1, hy0, hy1, hy2⟩ := info_parts infoKid
  obtain ⟨a, cap, rfl, hc⟩ := hv
  cases a with
  | none =>
    have hl0 : l = [] := by
      cases l with
      | nil => rfl
      | cons x r => obtain ⟨g, o, e, _⟩ := hc 0 x rfl; cases e
    subst hl0
    go_enter Tryz.func111, Tryz.ntmps111
    go_wp2_with fail
    go_ret
    exact ⟨_, rfl, World.ownsRow_nil _ _ _ _, Below.refl _ _⟩
  | some ad =>
    have HN : Hid (∀ j u, (l.flatMap kidEnc)[j]? = some u → ∃ b, (some ad : Option Addr) = some b ∧ (w.alloc (Obj.cells #[] 108)).cell? (b.add j) = some u) := fun j u hj => by
      have hlt : j < l.length * 2 := by rw [← flat_length (sz := 2) (enc := kidEnc) (fun _ => rfl) l]; exact (List.getElem?_eq_some_iff.1 hj).1
      obtain ⟨x, hx⟩ : ∃ x, l[j / 2]? = some x := ⟨_, List.getElem?_eq_getElem (by omega)⟩
      obtain ⟨u', hu'⟩ : ∃ u', (kidEnc x)[j % 2]? = some u' := ⟨_, List.getElem?_eq_getElem (by show j % 2 < 2; omega)⟩
      have h1 := flat_get (sz := 2) (enc := kidEnc) (fun _ => rfl) l _ x _ u' hx hu'
      rw [show j / 2 * 2 + j % 2 = j from by omega, hj] at h1
      obtain ⟨g, o, e, hg, hcc⟩ := hc _ x hx
      cases e
      have h2 := hcc _ u' hu'
      rw [Nat.add_assoc, show j / 2 * 2 + j % 2 = j from by omega] at h2
      cases h1
      have hadd : (⟨g, o, none⟩ : Addr).add j = ⟨g, o + j, none⟩ := by unfold Addr.add; split <;> simp_all
      exact ⟨_, rfl, by rw [hadd]; exact cell_alloc _ h2⟩
    have HE : Hid ((w.alloc (Obj.cells #[] 108)).ownsRow w.heap.size 108 2 (.slice (some ⟨w.heap.size, 0, none⟩) 0 0) 0 []) := World.ownsRow_lit (base := w.heap.size) (e := 108) (size := 2) w #[] 0 (Nat.le_refl _) (by unfold maxLen; omega) rfl
    have HL : Hid ((l.flatMap kidEnc).length = l.length * 2) := flat_length (sz := 2) (enc := kidEnc) (fun _ => rfl) l
    clear hc
    go_enter Tryz.func111, Tryz.ntmps111
    go_wp2_with (at_builtin; refine wpList_append_any rfl _ _ _ rfl w.heap.size 108 i1 _ 2 16 Tryz.underlying109 hi1 hy0 hy1 hy2 rfl (by omega) (.slice (some ⟨w.heap.size, 0, none⟩) 0 0) 0 [] rfl HE.out (some ad) l.length cap (l.flatMap kidEnc) rfl HL.out HN.out (flat_one kidEnc_one _) (by unfold maxLen; omega) (by omega) (by simp) ?_; intro v3 w3 hown3 hgrow3; rw [Nat.zero_add, List.nil_append] at hown3; obtain ⟨a3, c3, rfl⟩ := row_form hown3)
    go_ret
    refine ⟨_, rfl, hown3, ?_⟩
    exact ((Below.refl _ _).alloc (Nat.le_refl _) _).trans ((Kept.grown hgrow3 (X := fun b => w.heap.size ≤ b) (fun r e => by simp [Value.ownBlock] at e; omega)).below (by simp) (fun _ h => h))
set_option maxHeartbeats 1000000 in
set_option maxRecDepth 100000 in
theorem cloneT_calls (v : Value) (l : List TaskS) (w : World) (hv : ListAt 3 taskEnc w v l) (hl : l.length ≤ 1000000) :
    Calls Tryz.prog 147 #[v] w fun e w' => ∃ v', e = .returned v' ∧ w'.ownsRow w.heap.size 76 3 v' l.length (l.flatMap taskEnc) ∧ Below w.heap.size w w' := by
  obtain ⟨i1, hi1, hy0, hy1, hy2⟩ := info_parts infoTask
  obtain ⟨a, cap, rfl, hc⟩ := hv
  cases a with
  | none =>
    have hl0 : l = [] := by
      cases l with
      | nil => rfl
      | cons x r => obtain ⟨g, o, e, _⟩ := hc 0 x rfl; cases e
    subst hl0
    go_enter Tryz.func147, Tryz.ntmps147
    go_wp2_with fail
    go_ret
    exact ⟨_, rfl, World.ownsRow_nil _ _ _ _, Below.refl _ _⟩
  | some ad =>
    have HN : Hid (∀ j u, (l.flatMap taskEnc)[j]? = some u → ∃ b, (some ad : Option Addr) = some b ∧ (w.alloc (Obj.cells #[] 76)).cell? (b.add j) = some u) := fun j u hj => by
      have hlt : j < l.length * 3 := by rw [← flat_length (sz := 3) (enc := taskEnc) (fun _ => rfl) l]; exact (List.getElem?_eq_some_iff.1 hj).1
      obtain ⟨x, hx⟩ : ∃ x, l[j / 3]? = some x := ⟨_, List.getElem?_eq_getElem (by omega)⟩
      obtain ⟨u', hu'⟩ : ∃ u', (taskEnc x)[j % 3]? = some u' := ⟨_, List.getElem?_eq_getElem (by show j % 3 < 3; omega)⟩
      have h1 := flat_get (sz := 3) (enc := taskEnc) (fun _ => rfl) l _ x _ u' hx hu'
      rw [show j / 3 * 3 + j % 3 = j from by omega, hj] at h1
      obtain ⟨g, o, e, hg, hcc⟩ := hc _ x hx
      cases e
      have h2 := hcc _ u' hu'
      rw [Nat.add_assoc, show j / 3 * 3 + j % 3 = j from by omega] at h2
      cases h1
      have hadd : (⟨g, o, none⟩ : Addr).add j = ⟨g, o + j, none⟩ := by unfold Addr.add; split <;> simp_all
      exact ⟨_, rfl, by rw [hadd]; exact cell_alloc _ h2⟩
    have HE : Hid ((w.alloc (Obj.cells #[] 76)).ownsRow w.heap.size 76 3 (.slice (some ⟨w.heap.size, 0, none⟩) 0 0) 0 []) := World.ownsRow_lit (base := w.heap.size) (e := 76) (size := 3) w #[] 0 (Nat.le_refl _) (by unfold maxLen; omega) rfl
    have HL : Hid ((l.flatMap taskEnc).length = l.length * 3) := flat_length (sz := 3) (enc := taskEnc) (fun _ => rfl) l
    clear hc
    go_enter Tryz.func147, Tryz.ntmps147
    go_wp2_with (at_builtin; refine wpList_append_any rfl _ _ _ rfl w.heap.size 76 i1 _ 3 32 Tryz.underlying52 hi1 hy0 hy1 hy2 rfl (by omega) (.slice (some ⟨w.heap.size, 0, none⟩) 0 0) 0 [] rfl HE.out (some ad) l.length cap (l.flatMap taskEnc) rfl HL.out HN.out (flat_one taskEnc_one _) (by unfold maxLen; omega) (by omega) (by simp) ?_; intro v3 w3 hown3 hgrow3; rw [Nat.zero_add, List.nil_append] at hown3; obtain ⟨a3, c3, rfl⟩ := row_form hown3)
    go_ret
    refine ⟨_, rfl, hown3, ?_⟩
    exact ((Below.refl _ _).alloc (Nat.le_refl _) _).trans ((Kept.grown hgrow3 (X := fun b => w.heap.size ≤ b) (fun r e => by simp [Value.ownBlock] at e; omega)).below (by simp) (fun _ h => h))
set_option maxHeartbeats 1000000 in
set_option maxRecDepth 100000 in
theorem cloneK_calls (v : Value) (l : List (KindS × Value)) (w : World) (hv : ListAt 3 kindEnc w v l) (hl : l.length ≤ 1000000) (h1 : ∀ p ∈ l, p.2.oneCell' = true) :
    Calls Tryz.prog 110 #[v] w fun e w' => ∃ v', e = .returned v' ∧ w'.ownsRow w.heap.size 111 3 v' l.length (l.flatMap kindEnc) ∧ Below w.heap.size w w' := by
  obtain ⟨i1, hi1, hy0, hy1, hy2⟩ := info_parts infoKind
  obtain ⟨a, cap, rfl, hc⟩ := hv
  cases a with
  | none =>
    have hl0 : l = [] := by
      cases l with
      | nil => rfl
      | cons x r => obtain ⟨g, o, e, _⟩ := hc 0 x rfl; cases e
    subst hl0
    go_enter Tryz.func110, Tryz.ntmps110
    go_wp2_with fail
    go_ret
    exact ⟨_, rfl, World.ownsRow_nil _ _ _ _, Below.refl _ _⟩
  | some ad =>
    have HN : Hid (∀ j u, (l.flatMap kindEnc)[j]? = some u → ∃ b, (some ad : Option Addr) = some b ∧ (w.alloc (Obj.cells #[] 111)).cell? (b.add j) = some u) := fun j u hj => by
      have hlt : j < l.length * 3 := by rw [← flat_length (sz := 3) (enc := kindEnc) (fun _ => rfl) l]; exact (List.getElem?_eq_some_iff.1 hj).1
      obtain ⟨x, hx⟩ : ∃ x, l[j / 3]? = some x := ⟨_, List.getElem?_eq_getElem (by omega)⟩
      obtain ⟨u', hu'⟩ : ∃ u', (kindEnc x)[j % 3]? = some u' := ⟨_, List.getElem?_eq_getElem (by show j % 3 < 3; omega)⟩
      have h1 := flat_get (sz := 3) (enc := kindEnc) (fun _ => rfl) l _ x _ u' hx hu'
      rw [show j / 3 * 3 + j % 3 = j from by omega, hj] at h1
      obtain ⟨g, o, e, hg, hcc⟩ := hc _ x hx
      cases e
      have h2 := hcc _ u' hu'
      rw [Nat.add_assoc, show j / 3 * 3 + j % 3 = j from by omega] at h2
      cases h1
      have hadd : (⟨g, o, none⟩ : Addr).add j = ⟨g, o + j, none⟩ := by unfold Addr.add; split <;> simp_all
      exact ⟨_, rfl, by rw [hadd]; exact cell_alloc _ h2⟩
    have HE : Hid ((w.alloc (Obj.cells #[] 111)).ownsRow w.heap.size 111 3 (.slice (some ⟨w.heap.size, 0, none⟩) 0 0) 0 []) := World.ownsRow_lit (base := w.heap.size) (e := 111) (size := 3) w #[] 0 (Nat.le_refl _) (by unfold maxLen; omega) rfl
    have HL : Hid ((l.flatMap kindEnc).length = l.length * 3) := flat_length (sz := 3) (enc := kindEnc) (fun _ => rfl) l
    have H1 : Hid (∀ u ∈ l.flatMap kindEnc, u.oneCell' = true) := fun u hu => by
      obtain ⟨x, hx, hux⟩ := List.mem_flatMap.1 hu
      simp [kindEnc] at hux
      rcases hux with rfl | rfl | rfl
      · rfl
      · rfl
      · exact h1 x hx
    clear hc
    go_enter Tryz.func110, Tryz.ntmps110
    go_wp2_with (at_builtin; refine wpList_append_any rfl _ _ _ rfl w.heap.size 111 i1 _ 3 40 Tryz.underlying40 hi1 hy0 hy1 hy2 rfl (by omega) (.slice (some ⟨w.heap.size, 0, none⟩) 0 0) 0 [] rfl HE.out (some ad) l.length cap (l.flatMap kindEnc) rfl HL.out HN.out H1.out (by unfold maxLen; omega) (by omega) (by simp) ?_; intro v3 w3 hown3 hgrow3; rw [Nat.zero_add, List.nil_append] at hown3; obtain ⟨a3, c3, rfl⟩ := row_form hown3)
    go_ret
    refine ⟨_, rfl, hown3, ?_⟩
    exact ((Below.refl _ _).alloc (Nat.le_refl _) _).trans ((Kept.grown hgrow3 (X := fun b => w.heap.size ≤ b) (fun r e => by simp [Value.ownBlock] at e; omega)).below (by simp) (fun _ h => h))
set_option maxHeartbeats 1000000 in
set_option maxRecDepth 100000 in
theorem isConfig_calls (workers room mode : Int) (w : World) :
    Calls Tryz.prog 67 #[.agg #[.int .i64 workers, .int .i64 room, .int .i64 mode]] w fun e w' => e = .returned (.bool (cfgB workers room mode)) ∧ Below w.heap.size w w' := by
  have hcfg : cfgB workers room mode = ((decide (2 ≤ workers) && decide (workers ≤ 5)) && (decide (1 ≤ room) && decide (room ≤ 20)) && ((mode == 1) || (mode == 2))) := by
    have e1 : decide (mode = 1) = (mode == 1) := by rw [Bool.eq_iff_iff]; simp
    have e2 : decide (mode = 2) = (mode == 2) := by rw [Bool.eq_iff_iff]; simp
    unfold cfgB
    rw [e1, e2]
    simp [Bool.and_assoc]
  obtain ⟨V, hV⟩ : ∃ V, w.alloc (Obj.cells #[.int .i64 workers, .int .i64 room, .int .i64 mode] 39) = V := ⟨_, rfl⟩
  have hb : Below w.heap.size w V := by rw [← hV]; exact (Below.refl _ _).alloc (Nat.le_refl _) _
  have bC : BoxAt V w.heap.size 39 #[.int .i64 workers, .int .i64 room, .int .i64 mode] := by rw [← hV]; exact BoxAt.new w _ _
  have c0 := bC.cell (o := 0) rfl
  have c1 := bC.cell (o := 1) rfl
  have c2 := bC.cell (o := 2) rfl
  have HB := hid_of hb
  obtain ⟨res, hres⟩ : ∃ res, cfgB workers room mode = res := ⟨_, rfl⟩
  rw [hres]
  rw [hres] at hcfg
  have HC := hid_of hcfg
  clear hb hcfg bC hres
  go_enter Tryz.func67, Tryz.ntmps67
  go_upto_region 1 with fail
  clear hV
  go_cut [3] (fun b wx => b = .bool (decide (2 ≤ workers) && decide (workers ≤ 5)) ∧ V = wx)
  case first =>
    by_cases h1 : 2 ≤ workers
    · by_cases h2 : workers ≤ 5
      · go_wp2_with fail
        go_meet
        case rel => exact ⟨by rw [decide_eq_true h1, decide_eq_true h2]; rfl, rfl⟩
      · go_wp2_with fail
        go_meet
        case rel => exact ⟨by rw [decide_eq_true h1, decide_eq_false (show ¬ workers ≤ 5 by omega)]; rfl, rfl⟩
    · go_wp2_with fail
      go_meet
      case rel => exact ⟨by rw [decide_eq_false (show ¬ 2 ≤ workers by omega)]; rfl, rfl⟩
  case rest =>
    obtain ⟨rfl, rfl⟩ := hcut
    obtain ⟨x1, hx1⟩ : ∃ x1, (decide (2 ≤ workers) && decide (workers ≤ 5)) = x1 := ⟨_, rfl⟩
    rw [hx1] at HC ⊢
    clear hx1
    go_upto_region 2 with fail
    go_cut [4] (fun b wx => b = .bool (decide (1 ≤ room) && decide (room ≤ 20)) ∧ V = wx)
    case first =>
      by_cases h1 : 1 ≤ room
      · by_cases h2 : room ≤ 20
        · go_wp2_with fail
          go_meet
          case rel => exact ⟨by rw [decide_eq_true h1, decide_eq_true h2]; rfl, rfl⟩
        · go_wp2_with fail
          go_meet
          case rel => exact ⟨by rw [decide_eq_true h1, decide_eq_false (show ¬ room ≤ 20 by omega)]; rfl, rfl⟩
      · go_wp2_with fail
        go_meet
        case rel => exact ⟨by rw [decide_eq_false (show ¬ 1 ≤ room by omega)]; rfl, rfl⟩
    case rest =>
      obtain ⟨rfl, rfl⟩ := hcut
      obtain ⟨x2, hx2⟩ : ∃ x2, (decide (1 ≤ room) && decide (room ≤ 20)) = x2 := ⟨_, rfl⟩
      rw [hx2] at HC ⊢
      clear hx2
      go_upto_region 3 with fail
      go_cut [5] (fun b wx => b = .bool ((mode == 1) || (mode == 2)) ∧ V = wx)
      case first =>
        cases h1 : (mode == 1)
        · go_wp2_with fail
          go_meet
          case rel => exact ⟨by rw [h1]; rfl, rfl⟩
        · go_wp2_with fail
          go_meet
          case rel => exact ⟨by rw [h1]; rfl, rfl⟩
      case rest =>
        obtain ⟨rfl, rfl⟩ := hcut
        obtain ⟨x3, hx3⟩ : ∃ x3, ((mode == 1) || (mode == 2)) = x3 := ⟨_, rfl⟩
        rw [hx3] at HC ⊢
        clear hx3
        cases x1 <;> cases x2
        all_goals
          go_wp2_with fail
          go_ret
          refine ⟨?_, HB.out⟩
          rw [HC.out]
          rfl
end Go.Proofs.YtdbbejedipfckaaGreatDoor
/-
  How the project's Run lies in memory: definitions and small facts on them.
-/
namespace Go.Proofs.YtdbbejedipfckaaGreatDoor
open Go Go.RowKit

/-- A worker of the project's: the block of its tasks, its links, how many work messages it sent, whether it has asked. -/
abbrev XW := Nat × Value × Int × Bool
def xwEnc (x : XW) : List Value := [.pointer (some ⟨x.1, 0, none⟩), x.2.1, .int .i64 x.2.2.1, .bool x.2.2.2]
/-- A worker's list of tasks at block T. -/
def TaskListAt (X : Nat → Prop) (W : World) (T : Nat) (room : Int) (l : List TaskS) : Prop :=
  ∃ tv, BoxAt W T 169 #[tv, .int .i64 room] ∧ X T ∧ RowIn X 76 3 taskEnc W tv l
theorem TaskListAt.kept {X X' Y : Nat → Prop} {W W' : World} {T : Nat} {room : Int} {l : List TaskS} (h : TaskListAt X W T room l) (k : Kept Y W W') (hx : ∀ g, g < W.heap.size → X g → ¬ Y g ∧ X' g) : TaskListAt X' W' T room l := by
  obtain ⟨tv, h1, h2, h3⟩ := h
  exact ⟨tv, h1.kept k (hx T h1.lt h2).1, (hx T h1.lt h2).2, h3.kept k hx⟩
/-- A channel at block c with room for cap things, that holds l. -/
def ChanAt (W : World) (c cap : Nat) (l : List MsgS) : Prop := ∃ s r, W.heap[c]? = some (.chan cap (l.map (fun m => Value.agg (msgCells m))).toArray false s r false)
theorem ChanAt.kept {Y : Nat → Prop} {W W' : World} {c cap : Nat} {l : List MsgS} (h : ChanAt W c cap l) (k : Kept Y W W') (hc : ¬ Y c) : ChanAt W' c cap l := by
  obtain ⟨s, r, h⟩ := h
  exact ⟨s, r, k.heap h hc⟩
theorem ChanAt.lt {W : World} {c cap : Nat} {l : List MsgS} (h : ChanAt W c cap l) : c < W.heap.size := by
  obtain ⟨s, r, h⟩ := h
  exact (Array.getElem?_eq_some_iff.1 h).1
/-- What of a link isn't known to have come. -/
def LinkS.left (l : LinkS) : List MsgS := l.all.drop l.known.toNat
/-- The end of a link at which things are sent, at block q. -/
def OutAt (X : Nat → Prop) (W : World) (q : Nat) (l : LinkS) : Prop :=
  ∃ c cap, BoxAt W q 206 #[.int .i64 (l.all.length : Int), .chan (some c)] ∧ X q ∧ ChanAt W c cap l.left ∧ X c ∧ 4 ≤ cap ∧ cap ≤ 4 + 2 * l.all.length ∧ l.left.length ≤ cap
theorem OutAt.kept {X X' Y : Nat → Prop} {W W' : World} {q : Nat} {l : LinkS} (h : OutAt X W q l) (k : Kept Y W W') (hx : ∀ g, g < W.heap.size → X g → ¬ Y g ∧ X' g) : OutAt X' W' q l := by
  obtain ⟨c, cap, h1, h2, h3, h4, h5⟩ := h
  exact ⟨c, cap, h1.kept k (hx q h1.lt h2).1, (hx q h1.lt h2).2, h3.kept k (hx c h3.lt h4).1, (hx c h3.lt h4).2, h5⟩
/-- A pointer that may be nil. -/
def optEnc (q : Option Nat) : List Value := [.pointer (q.map (fun b => ⟨b, 0, none⟩))]
/-- One end among a worker's: nil at its own, on which nothing is ever sent. -/
def EndAt (part : Nat → Nat) (i j : Nat) (W : World) (l : LinkS) : Option Nat → Prop
  | none => j = i ∧ l.all = []
  | some q => j ≠ i ∧ OutAt (fun b => part b = 100 + 10 * i + j) W q l
/-- The links that begin at worker i. -/
def XLinksAt (part : Nat → Nat) (i : Nat) (W : World) (v : Value) (ls : List LinkS) : Prop :=
  ∃ qs : List (Option Nat), RowIn (fun b => part b = 9) 189 1 optEnc W v qs ∧ qs.length = ls.length ∧ ∀ j q l, qs[j]? = some q → ls[j]? = some l → EndAt part i j W l q
theorem EndAt.kept {part part' : Nat → Nat} {Y : Nat → Prop} {i j : Nat} {W W' : World} {l : LinkS} {q : Option Nat} (h : EndAt part i j W l q) (k : Kept Y W W') (hx : ∀ g, g < W.heap.size → part g = 100 + 10 * i + j → ¬ Y g ∧ part' g = 100 + 10 * i + j) : EndAt part' i j W' l q := by
  cases q with
  | none => exact h
  | some q => exact ⟨h.1, h.2.kept k hx⟩
theorem XLinksAt.kept {part part' : Nat → Nat} {Y : Nat → Prop} {i : Nat} {W W' : World} {v : Value} {ls : List LinkS} (h : XLinksAt part i W v ls) (k : Kept Y W W') (hx : ∀ g, g < W.heap.size → part g = 9 ∨ (100 + 10 * i ≤ part g ∧ part g < 100 + 10 * i + ls.length) → ¬ Y g ∧ part' g = part g) : XLinksAt part' i W' v ls := by
  obtain ⟨qs, h1, h2, h3⟩ := h
  refine ⟨qs, h1.kept k (fun g hg e => ⟨(hx g hg (.inl e)).1, (hx g hg (.inl e)).2.trans e⟩), h2, fun j q l hq hl => (h3 j q l hq hl).kept k (fun g hg e => ?_)⟩
  have hj := (List.getElem?_eq_some_iff.1 hl).1
  exact ⟨(hx g hg (.inr (by omega))).1, (hx g hg (.inr (by omega))).2.trans e⟩
abbrev xrunCells (s : RunS) (kv wv yv : Value) (M : Nat) : Array Value := #[kv, .int .i64 s.kind, .int .i64 s.arg, wv, yv, .map (some M), .bool s.over]
/-- The values that are kept, in the map at block M. -/
def KeptAt (part : Nat → Nat) (W : World) (M : Nat) (vs : List (ByteArray × Int)) : Prop := ∃ D : DataW Unit, MapIs W M D ∧ part M = 3 ∧ Maps.size D ≤ vs.length
theorem KeptAt.lt {part : Nat → Nat} {W : World} {M : Nat} {vs : List (ByteArray × Int)} (h : KeptAt part W M vs) : M < W.heap.size := by
  obtain ⟨D, h, _⟩ := h
  exact h.lt
theorem KeptAt.is {part : Nat → Nat} {W : World} {M : Nat} {vs : List (ByteArray × Int)} (h : KeptAt part W M vs) : part M = 3 := by
  obtain ⟨D, _, h, _⟩ := h
  exact h
theorem KeptAt.kept {part part' : Nat → Nat} {Y : Nat → Prop} {W W' : World} {M : Nat} {vs : List (ByteArray × Int)} (h : KeptAt part W M vs) (k : Kept Y W W') (hY : ¬ Y M) (hp : part' M = part M) : KeptAt part' W' M vs := by
  obtain ⟨D, h1, h2, h3⟩ := h
  exact ⟨D, h1.kept k hY, hp.trans h2, h3⟩
/-- The project's Run at block B, with the values of its cells. part: 1 its own block; 2 the messages on their way; 3 the kept values; 6 the kinds; 7 the list of workers; 9 the lists of links; 10 and i the tasks of worker i; 100, 10 i and j the link from i to j. -/
structure XAtO (part : Nat → Nat) (W : World) (B : Nat) (s : RunS) (kv wv yv : Value) (M : Nat) (xs : List XW) : Prop where
  box : BoxAt W B 127 (xrunCells s kv wv yv M)
  pB : part B = 1
  kinds : KindsAt (fun b => part b = 6) W kv s.ks
  wrow : RowIn (fun b => part b = 7) 135 4 xwEnc W wv xs
  wlen : xs.length = s.W.length
  wat : ∀ i x y, xs[i]? = some x → s.W[i]? = some y → x.2.2 = (y.sent, y.asked) ∧ TaskListAt (fun b => part b = 10 + i) W x.1 s.room y.tasks
  llen : s.links.length = s.W.length
  lrow : ∀ ls ∈ s.links, ls.length = s.W.length
  five : s.W.length ≤ 5
  lat : ∀ i x ls, xs[i]? = some x → s.links[i]? = some ls → XLinksAt part i W x.2.1 ls
  yrow : RowIn (fun b => part b = 2) 139 15 msgEnc W yv s.way
  vals : KeptAt part W M s.values
def XAt (part : Nat → Nat) (W : World) (B : Nat) (s : RunS) : Prop := ∃ kv wv yv M xs, XAtO part W B s kv wv yv M xs
/-- What stays of a run when nothing but its own block and the blocks of one part is changed. -/
structure XRest (n : Nat) (part' : Nat → Nat) (W' : World) (s : RunS) (kv wv yv : Value) (M : Nat) (xs : List XW) : Prop where
  kinds : n ≠ 6 → KindsAt (fun b => part' b = 6) W' kv s.ks
  wrow : n ≠ 7 → RowIn (fun b => part' b = 7) 135 4 xwEnc W' wv xs
  wat : ∀ i x y, n ≠ 10 + i → xs[i]? = some x → s.W[i]? = some y → x.2.2 = (y.sent, y.asked) ∧ TaskListAt (fun b => part' b = 10 + i) W' x.1 s.room y.tasks
  lat : ∀ i x ls, n ≠ 9 → n < 100 + 10 * i ∨ 100 + 10 * i + ls.length ≤ n → xs[i]? = some x → s.links[i]? = some ls → XLinksAt part' i W' x.2.1 ls
  yrow : n ≠ 2 → RowIn (fun b => part' b = 2) 139 15 msgEnc W' yv s.way
  vals : n ≠ 3 → KeptAt part' W' M s.values
theorem XAtO.rest {part part' : Nat → Nat} {Y : Nat → Prop} {W W' : World} {B M : Nat} {s : RunS} {kv wv yv : Value} {xs : List XW} (h : XAtO part W B s kv wv yv M xs) (n : Nat) (k : Kept Y W W') (hp : ∀ g, g < W.heap.size → part' g = part g) (hY : ∀ g, g < W.heap.size → Y g → part g = 1 ∨ part g = n) : XRest n part' W' s kv wv yv M xs := by
  have hg : ∀ t, t ≠ 1 → n ≠ t → ∀ g, g < W.heap.size → part g = t → ¬ Y g ∧ part' g = t := fun t h1 hn g hl e => ⟨fun hy => by have := hY g hl hy; omega, (hp g hl).trans e⟩
  refine ⟨fun hn => ?_, fun hn => h.wrow.kept k (hg 7 (by omega) hn), fun i x y hn hx hy => ⟨(h.wat i x y hx hy).1, (h.wat i x y hx hy).2.kept k (hg _ (by omega) hn)⟩, fun i x ls h9 hn hx hl => (h.lat i x ls hx hl).kept k (fun g hl e => ?_), fun hn => h.yrow.kept k (hg 2 (by omega) hn), fun hn => h.vals.kept k (hg 3 (by omega) hn M h.vals.lt h.vals.is).1 (hp M h.vals.lt)⟩
  · exact (h.kinds.below.kept k (fun b hb => (hg 6 (by omega) hn b hb.2 hb.1).1)).mono' (fun b hb => (hg 6 (by omega) hn b hb.2 hb.1).2)
  · exact ⟨fun hy => by have := hY g hl hy; omega, hp g hl⟩
theorem XAtO.kept {part part' : Nat → Nat} {Y : Nat → Prop} {W W' : World} {B M : Nat} {s : RunS} {kv wv yv : Value} {xs : List XW} (h : XAtO part W B s kv wv yv M xs) (k : Kept Y W W') (hx : ∀ g, g < W.heap.size → part g ≠ 0 → ¬ Y g ∧ part' g = part g) : XAtO part' W' B s kv wv yv M xs := by
  have hg : ∀ (n : Nat), n ≠ 0 → ∀ g, g < W.heap.size → part g = n → ¬ Y g ∧ part' g = n := fun n hn g hl e => ⟨(hx g hl (by omega)).1, (hx g hl (by omega)).2.trans e⟩
  refine ⟨h.box.kept k (hg 1 (by omega) B h.box.lt h.pB).1, (hg 1 (by omega) B h.box.lt h.pB).2, ?_, h.wrow.kept k (hg 7 (by omega)), h.wlen, fun i x y hx hy => ⟨(h.wat i x y hx hy).1, (h.wat i x y hx hy).2.kept k (hg _ (by omega))⟩, h.llen, h.lrow, h.five, fun i x ls h1 h2 => (h.lat i x ls h1 h2).kept k (fun g hl e => hx g hl (by omega)), h.yrow.kept k (hg 2 (by omega)), h.vals.kept k (hg 3 (by omega) M h.vals.lt h.vals.is).1 ((hg 3 (by omega) M h.vals.lt h.vals.is).2.trans h.vals.is.symm)⟩
  exact (h.kinds.below.kept k (fun b hb => (hg 6 (by omega) b hb.2 hb.1).1)).mono' (fun b hb => (hg 6 (by omega) b hb.2 hb.1).2)
theorem XAt.kept {part part' : Nat → Nat} {Y : Nat → Prop} {W W' : World} {B : Nat} {s : RunS} (h : XAt part W B s) (k : Kept Y W W') (hx : ∀ g, g < W.heap.size → part g ≠ 0 → ¬ Y g ∧ part' g = part g) : XAt part' W' B s := by
  obtain ⟨kv, wv, yv, M, xs, h⟩ := h
  exact ⟨kv, wv, yv, M, xs, h.kept k hx⟩
/-- The project's Run in blocks that F names. -/
def XOK (F : Nat → Prop) (W : World) (B : Nat) (s : RunS) : Prop := ∃ part : Nat → Nat, (∀ b, part b ≠ 0 → F b) ∧ XAt part W B s
theorem XOK.kept {F F' Y : Nat → Prop} {W W' : World} {B : Nat} {s : RunS} (h : XOK F W B s) (k : Kept Y W W') (hx : ∀ g, g < W.heap.size → F g → ¬ Y g ∧ F' g) : XOK F' W' B s := by
  obtain ⟨part, h1, h2⟩ := h
  refine ⟨fun b => if b < W.heap.size then part b else 0, fun b hb => ?_, h2.kept k (fun g hl hp => ⟨(hx g hl (h1 g hp)).1, by simp [hl]⟩)⟩
  by_cases hl : b < W.heap.size
  · exact (hx b hl (h1 b (by simpa [hl] using hb))).2
  · simp [hl] at hb
theorem XOK.later {F : Nat → Prop} {W W' : World} {B : Nat} {s : RunS} (h : XOK F W B s) (hk : Below W.heap.size W W') : XOK F W' B s :=
  h.kept (Kept.of_below hk (X := fun b => W.heap.size ≤ b) (fun _ _ h => h)) (fun g hl hF => ⟨by omega, hF⟩)
theorem boxAt_at (W : World) (t : TypeId) (cs : Array Value) (g : Nat) (h : W.heap.size = g) : BoxAt (W.alloc (.cells cs t)) g t cs := by subst h; exact BoxAt.new W t cs
/-- A block whose cells are a list's is the list's row. -/
theorem row_of_cells {α : Type} {sz t base n g : Nat} {enc : α → List Value} {W : World} {cur : Array Value} {xs : List α} (hsz : 0 < sz) (he : ∀ x, (enc x).length = sz) (hb : BoxAt W g t cur) (hg : base ≤ g) (hcs : cur.size = n * sz) (hx : xs.length = n) (hn : n ≤ maxLen)
    (hc : ∀ j x i u, xs[j]? = some x → (enc x)[i]? = some u → cur[j * sz + i]? = some u) : W.ownsRow base t sz (.slice (some ⟨g, 0, none⟩) n n) n (xs.flatMap enc) := by
  have hl : (xs.flatMap enc).length = n * sz := by rw [flat_length he, hx]
  have hcur : cur.toList = xs.flatMap enc := by
    refine List.ext_getElem? fun i => ?_
    rcases Nat.lt_or_ge i (n * sz) with hi | hi
    · have h1 : i / sz < n := (Nat.div_lt_iff_lt_mul hsz).2 hi
      have h2 : i % sz < sz := Nat.mod_lt _ hsz
      have e : i / sz * sz + i % sz = i := by rw [Nat.mul_comm]; exact Nat.div_add_mod _ _
      obtain ⟨x, hxx⟩ : ∃ x, xs[i / sz]? = some x := ⟨_, List.getElem?_eq_getElem (by omega)⟩
      obtain ⟨u, hu⟩ : ∃ u, (enc x)[i % sz]? = some u := ⟨_, List.getElem?_eq_getElem (by rw [he]; exact h2)⟩
      have h3 := hc _ x _ u hxx hu
      have h4 := flat_get he xs _ x _ u hxx hu
      rw [e] at h3 h4
      rw [h4, Array.getElem?_toList, h3]
    · rw [List.getElem?_eq_none (by rw [Array.length_toList, hcs]; exact hi), List.getElem?_eq_none (by omega)]
  refine ⟨hl, .inr ⟨g, n, cur, rfl, hg, hb, Nat.le_refl _, hn, hcs, ?_⟩⟩
  rw [hcur, ← hl, List.take_length]
end Go.Proofs.YtdbbejedipfckaaGreatDoor
/-
  A worker's list of tasks, the links of a worker, and a program's copy, as the project makes them.
-/
namespace Go.Proofs.YtdbbejedipfckaaGreatDoor
open Go Go.RowKit

set_option maxHeartbeats 1000000 in
theorem tasksNew_calls (room : Int) (v : Value) (l : List TaskS) (w : World) (hv : ListAt 3 taskEnc w v l) (hl : l.length ≤ 1000000) :
    Calls Tryz.prog 112 #[.int .i64 room, v] w fun e w' => ∃ T tv, e = .returned (.pointer (some ⟨T, 0, none⟩)) ∧ BoxAt w' T 169 #[tv, .int .i64 room] ∧ w.heap.size ≤ T ∧ w'.ownsRow w.heap.size 76 3 tv l.length (l.flatMap taskEnc) ∧ Below w.heap.size w w' := by
  have HC := hid_of (cloneT_calls v l w hv hl)
  obtain ⟨va, vc, rfl, -⟩ := hv
  go_enter Tryz.func112, Tryz.ntmps112
  go_wp2_with (go_at_call 147; refine HC.out.mono ?_; rintro e w1 ⟨v1, rfl, hrow1, hb1⟩; obtain ⟨a1, c1, rfl⟩ := row_form hrow1)
  go_ret
  exact ⟨w1.heap.size, _, rfl, BoxAt.new w1 _ _, hb1.size, row_kept hrow1 (Kept.alloc _ _ _) (fun _ _ h => h) (Nat.le_refl _), hb1.alloc hb1.size _⟩

theorem mkChan (w : World) : (Instr.makeChan 204 (.int .i64 4)).run Tryz.prog w = .ok (.chan (some w.heap.size)) (w.alloc (.chan 4 #[] false 0 0 false)) := by
  have hi := infoMessage
  cases h : Tryz.prog.info? 139 with
  | none => rw [h] at hi; cases hi
  | some i =>
    rw [h] at hi
    simp at hi
    exact Conc.run_makeChan Tryz.underlying204 h .i64 4 (by omega) (by rw [hi.2.2]; omega)
attribute [local go_sem] mkChan
theorem chan_new (W : World) (cap : Nat) : ChanAt (W.alloc (.chan cap #[] false 0 0 false)) W.heap.size cap [] := ⟨0, 0, World.alloc_heap_new W _⟩
theorem ChanAt.below {W W' : World} {c cap : Nat} {l : List MsgS} (h : ChanAt W c cap l) (hb : Below W.heap.size W W') : ChanAt W' c cap l := h.kept (Kept.of_below hb (X := fun b => W.heap.size ≤ b) (fun _ _ h => h)) (by have := h.lt; omega)
set_option maxHeartbeats 1000000 in
set_option maxRecDepth 100000 in
theorem newOut_calls (w : World) : Calls Tryz.prog 148 #[] w fun e w' => ∃ T, e = .returned (.pointer (some ⟨T, 0, none⟩)) ∧ OutAt (fun b => w.heap.size ≤ b) w' T link0 ∧ Below w.heap.size w w' := by
  go_enter Tryz.func148, Tryz.ntmps148
  go_wp2_with fail
  go_ret
  refine ⟨_, rfl, ⟨w.heap.size, 4, ?_, ?_, (chan_new w 4).below ((Below.refl _ _).alloc (Nat.le_refl _) _), Nat.le_refl _, by omega, by simp [link0], by simp [link0, LinkS.left]⟩, ((Below.refl _ _).alloc (Nat.le_refl _) _).alloc (by simp) _⟩
  · exact boxAt_at _ _ _ _ (by simp)
  · simp
end Go.Proofs.YtdbbejedipfckaaGreatDoor
/-
  Functions whose own code sends on a channel or receives from one, nobody else being about: how such code is walked in the frame of an ordinary call.
-/
namespace Go.Proofs.YtdbbejedipfckaaGreatDoor
open Go Go.RowKit

/-- The walk of code in the frame of an ordinary call. -/
def WalkN (P : Program) (c : Code) (Q : Exit → Act → World → Prop) (a : Act) (w : World) : Prop :=
  ∀ (b : Frame) (k : List Item) (cs : List Frame), b.kind = .normal → b.roundOf = none → ∃ e a' w', Q e a' w' ∧ Arrives P (lone (b.at a (.code c :: k)) cs w) b k cs e a' w'
/-- The same of the operations of a region that are left. -/
def WalkO (P : Program) (ops : Array Oper) (l : List Nat) (Q : Exit → Act → World → Prop) (a : Act) (w : World) : Prop :=
  ∀ (b : Frame) (k : List Item) (cs : List Frame), b.kind = .normal → b.roundOf = none → ∃ e a' w', Q e a' w' ∧ Arrives P (lone (b.at a (.inRegion ops l :: k)) cs w) b k cs e a' w'

section
variable {P : Program} {Q : Exit → Act → World → Prop} {a : Act} {w : World}
theorem WalkN.of_wp {c : Code} (h : c.wp P Q a w) : WalkN P c Q a w := fun b k cs _ _ => h b k cs
theorem WalkN.of_wpIn {n : Nat} {c : Code} (h : c.wpIn Fence.wide n P Q a w) : WalkN P c Q a w := fun b k cs _ hb => by
  obtain ⟨e, a', w', h1, h2⟩ := h b k cs hb trivial (room_wide _)
  rw [Frame.atR_of_none hb] at h2
  exact ⟨e, a', w', h1, (arrivesIn_iff (fun _ _ => stepsIn_wide) hb).1 h2⟩
theorem WalkN.mono {c : Code} {Q' : Exit → Act → World → Prop} (h : WalkN P c Q a w) (hq : ∀ e a w, Q e a w → Q' e a w) : WalkN P c Q' a w :=
  fun b k cs hk hb => let ⟨e, a', w', q, r⟩ := h b k cs hk hb; ⟨e, a', w', hq _ _ _ q, r⟩
/-- One thing behind another. -/
theorem WalkN.seq {x y : Code} (h : WalkN P x (Exit.then (WalkN P y Q) Q) a w) : WalkN P (.seq x y) Q a w := by
  intro b k cs hk hb
  obtain ⟨e, a1, w1, hq, hr⟩ := h b (.code y :: k) cs hk hb
  have go : ∀ e', e = e' → e' ≠ .normal → Q e' a1 w1 → ∃ e a' w', Q e a' w' ∧ Arrives P (lone (b.at a (.code (.seq x y) :: k)) cs w) b k cs e a' w' := fun e' he hn hq' => by
    subst he
    exact ⟨_, a1, w1, hq', .of_steps (.one step_seq) (.pass (x := .code y) rfl (fun _ _ => .inl hn) hr)⟩
  cases e with
  | normal =>
    obtain ⟨e2, a2, w2, hq2, hr2⟩ := hq b k cs hk hb
    exact ⟨e2, a2, w2, hq2, .of_steps (.head step_seq hr) hr2⟩
  | exit id => exact go _ rfl (by simp) hq
  | goto l => exact go _ rfl (by simp) hq
  | ret => exact go _ rfl (by simp) hq
  | panic ch => exact go _ rfl (by simp) hq
  | outgrown => exact go _ rfl (by simp) hq
/-- A statement that is walked as ever, and what follows. -/
theorem WalkN.step {x y : Code} (h : ∀ K : Act → World → Prop, (∀ a w, WalkN P y Q a w → K a w) → x.wp P (Exit.then K (fun _ _ _ => False)) a w) : WalkN P (.seq x y) Q a w :=
  WalkN.seq ((WalkN.of_wp (h _ fun _ _ h => h)).mono fun e a w hq => by cases e <;> first | exact hq | exact hq.elim)
theorem WalkN.cond {c : Operand} {x y : Code} {t : Bool} (hc : a.eval c = .bool t) (h : WalkN P (if t then x else y) Q a w) : WalkN P (.cond c x y) Q a w :=
  fun b k cs hk hb => let ⟨e, a', w', q, r⟩ := h b k cs hk hb; ⟨e, a', w', q, .of_steps (.one (step_cond hc)) r⟩
/-- A block that is left by its end, or by the jump that ends it. -/
theorem WalkN.block {id : Nat} {c : Code} (h : WalkN P c (Exit.inBlock id Q) a w) : WalkN P (.block id c) Q a w := by
  intro b k cs hk hb
  obtain ⟨e, a1, w1, hq, hr⟩ := h b (.inBlock id :: k) cs hk hb
  cases e with
  | normal => exact ⟨.normal, a1, w1, hq, .head step_block (Steps.trans hr (.one step_inBlock))⟩
  | exit i =>
    by_cases hi : i = id
    · subst hi
      exact ⟨.normal, a1, w1, by simpa [Exit.inBlock] using hq, .head step_block (hr k (by simp [exitTo]))⟩
    · refine ⟨.exit i, a1, w1, by simpa [Exit.inBlock, hi] using hq, fun k' hk' => .head step_block (hr k' ?_)⟩
      have : (id == i) = false := by rw [beq_eq_false_iff_ne]; exact fun h => hi h.symm
      simp [exitTo, this, hk']
  | goto l => exact ⟨_, a1, w1, hq, fun k' hk' => .head step_block (hr k' (by simp [gotoIn, hk']))⟩
  | ret => exact ⟨_, a1, w1, hq, .of_steps (.one step_block) hr⟩
  | panic ch => exact ⟨_, a1, w1, hq, .of_steps (.one step_block) hr⟩
  | outgrown => exact ⟨_, a1, w1, hq, .of_steps (b := b) (k := k) (cs := cs) (e := .outgrown) (.one step_block) hr⟩
/-- A loop: what is left to do grows less with each round. -/
theorem WalkN.loop {c : Code} (I : Nat → Act → World → Prop) (m : Nat) (h0 : I m a w) (round : ∀ m a w, I m a w → WalkN P c (Exit.then (fun a' w' => ∃ m', m' < m ∧ I m' a' w') Q) a w) : WalkN P (.loop c) Q a w := by
  intro b k cs hk hb
  have key : ∀ m a w, I m a w → ∃ e a' w', Q e a' w' ∧ Arrives P (lone (b.at a (.code c :: .inLoop c :: k)) cs w) b k cs e a' w' := by
    intro m
    induction m using Nat.strongRecOn with
    | _ m ih =>
      intro a w hI
      obtain ⟨e, a1, w1, hq, hr⟩ := round m a w hI b (.inLoop c :: k) cs hk hb
      have go : ∀ e', e = e' → e' ≠ .normal → Q e' a1 w1 → ∃ e a' w', Q e a' w' ∧ Arrives P (lone (b.at a (.code c :: .inLoop c :: k)) cs w) b k cs e a' w' := fun e' he hn hq' => by
        subst he
        exact ⟨_, a1, w1, hq', .pass (x := .inLoop c) rfl (fun _ _ => .inl hn) hr⟩
      cases e with
      | normal =>
        obtain ⟨m', hlt, hI'⟩ := hq
        obtain ⟨e2, a2, w2, hq2, hr2⟩ := ih m' hlt a1 w1 hI'
        exact ⟨e2, a2, w2, hq2, .of_steps (Steps.trans hr (.one step_inLoop)) hr2⟩
      | exit id => exact go _ rfl (by simp) hq
      | goto l => exact go _ rfl (by simp) hq
      | ret => exact go _ rfl (by simp) hq
      | panic ch => exact go _ rfl (by simp) hq
      | outgrown => exact go _ rfl (by simp) hq
  obtain ⟨e, a', w', hq, hr⟩ := key m a w h0
  exact ⟨e, a', w', hq, .of_steps (.one step_loop) hr⟩
/-- A region whose operations have one order. -/
theorem WalkN.region {id : Nat} {ops : Array Oper} (h : WalkO P ops (List.range ops.size) Q a w) : WalkN P (.region id ops false) Q a w :=
  fun b k cs hk hb => let ⟨e, a', w', q, r⟩ := h b k cs hk hb; ⟨e, a', w', q, .of_steps (.one step_region) r⟩
theorem WalkN.region_draw {id : Nat} {ops : Array Oper} (h : ∀ t, WalkO P ops (Region.schedule (P.follows .mixedOrders) ops t) Q a { w with drawn := w.drawn + 1 }) : WalkN P (.region id ops true) Q a w :=
  fun b k cs hk hb => let ⟨e, a', w', q, r⟩ := h _ b k cs hk hb; ⟨e, a', w', q, .of_steps (.one step_region_draw) r⟩
variable {ops : Array Oper} {i : Nat} {rest : List Nat} {o : Oper}
theorem WalkO.nil (h : Q .normal a w) : WalkO P ops [] Q a w := fun _ _ _ _ _ => ⟨.normal, a, w, h, .one step_region_end⟩
theorem WalkO.of_ops {l : List Nat} (h : wpOps P ops Q l a w) : WalkO P ops l Q a w := fun b k cs _ _ => wp_ops l a w h b k cs
theorem finish_at_some (ho : ops[i]? = some o) (b : Frame) (k : List Item) (v : Value) : (b.at a (.inRegion ops (i :: rest) :: k)).finish v = b.at (a.put o.dst v) (.inRegion ops rest :: k) := by
  rw [Frame.finish_at, ho]; rfl
/-- An operation that gives a value. -/
theorem WalkO.value {v : Value} {w' : World} (ho : ops[i]? = some o) (hw : Region.wanted o (yielded ops a.tmps) = true) (hr : (execOp a.eval o).run P w = .ok (.value v) w') (h : WalkO P ops rest Q (a.put o.dst v) w') : WalkO P ops (i :: rest) Q a w := by
  intro b k cs hk hb
  obtain ⟨e, a2, w2, hq, hr2⟩ := h b k cs hk hb
  refine ⟨e, a2, w2, hq, .of_steps (.one (step_lone_go ?_)) hr2⟩
  rw [stepG_op ho hw, ← finish_at_some ho]
  simp [stepG.apply, hr]
/-- A send that finds room. -/
theorem WalkO.send {c cap s r : Nat} {buf : Array Value} {tm : Bool} {v z : Value} {w' : World} (ho : ops[i]? = some o) (hw : Region.wanted o (yielded ops a.tmps) = true) (hr : (execOp a.eval o).run P w = .ok (.comm #[Conc.scase c v z] true .send) w')
    (hc : w'.heap[c]? = some (.chan cap buf false s r tm)) (hroom : buf.size < cap) (h : WalkO P ops rest Q (a.put o.dst undef) (w'.setChan c cap (buf.push v) false (s + 1) r tm)) : WalkO P ops (i :: rest) Q a w := by
  intro b k cs hk hb
  obtain ⟨e, a2, w2, hq, hr2⟩ := h b k cs hk hb
  refine ⟨e, a2, w2, hq, .of_steps (.one ?_) hr2⟩
  have := Conc.step_lone_send_room (fr := b.at a (.inRegion ops (i :: rest) :: k)) (cs := cs) (Conc.stepG_comm ho hw (by rw [hk]; simp) hr) hc hroom
  rw [finish_at_some ho] at this
  exact this
/-- A receive that finds something. -/
theorem WalkO.recv {ok closed tm : Bool} {c cap s r : Nat} {buf : Array Value} {z : Value} {w' : World} (ho : ops[i]? = some o) (hw : Region.wanted o (yielded ops a.tmps) = true) (hr : (execOp a.eval o).run P w = .ok (.comm #[Conc.rcase c z] true (.recv ok)) w')
    (hc : w'.heap[c]? = some (.chan cap buf closed s r tm)) (hsome : 0 < buf.size) (h : WalkO P ops rest Q (a.put o.dst (Conc.got ok (buf.getD 0 undef) true)) (w'.setChan c cap (buf.extract 1 buf.size) closed s (r + 1) tm)) : WalkO P ops (i :: rest) Q a w := by
  intro b k cs hk hb
  obtain ⟨e, a2, w2, hq, hr2⟩ := h b k cs hk hb
  refine ⟨e, a2, w2, hq, .of_steps (.one ?_) hr2⟩
  have := Conc.step_lone_recv_buf (fr := b.at a (.inRegion ops (i :: rest) :: k)) (cs := cs) ok (Conc.stepG_comm ho hw (by rw [hk]; simp) hr) hc hsome
  rw [finish_at_some ho] at this
  exact this
/-- A receive from a channel that is closed and empty. -/
theorem WalkO.shut {ok tm : Bool} {c cap s r : Nat} {z : Value} {w' : World} (ho : ops[i]? = some o) (hw : Region.wanted o (yielded ops a.tmps) = true) (hr : (execOp a.eval o).run P w = .ok (.comm #[Conc.rcase c z] true (.recv ok)) w')
    (hc : w'.heap[c]? = some (.chan cap #[] true s r tm)) (h : WalkO P ops rest Q (a.put o.dst (Conc.got ok z false)) w') : WalkO P ops (i :: rest) Q a w := by
  intro b k cs hk hb
  obtain ⟨e, a2, w2, hq, hr2⟩ := h b k cs hk hb
  refine ⟨e, a2, w2, hq, .of_steps (.one ?_) hr2⟩
  have := Conc.step_lone_recv_shut (fr := b.at a (.inRegion ops (i :: rest) :: k)) (cs := cs) ok (Conc.stepG_comm ho hw (by rw [hk]; simp) hr) hc
  rw [finish_at_some ho] at this
  exact this
/-- What is asked of an operation that gives a value. -/
def uponV (a : Act) (o : Oper) (K : Act → World → Prop) : Result Next → Prop
  | .ok (.value v) w' => K (a.put o.dst v) w'
  | _ => False
theorem uponV_value (a : Act) (o : Oper) (K : Act → World → Prop) (v : Value) (w' : World) : uponV a o K (.ok (.value v) w') = K (a.put o.dst v) w' := rfl
theorem WalkO.oper (ho : ops[i]? = some o) (hw : Region.wanted o (yielded ops a.tmps) = true) (h : ∀ K : Act → World → Prop, (∀ a' w', WalkO P ops rest Q a' w' → K a' w') → uponV a o K ((execOp a.eval o).run P w)) : WalkO P ops (i :: rest) Q a w := by
  have h1 := h _ (fun _ _ h => h)
  unfold uponV at h1
  split at h1
  · rename_i v w' hr
    exact WalkO.value ho hw hr h1
  · exact h1.elim
/-- The orders that a region may take. -/
def ordersOf (md : Region.Mode) (ops : Array Oper) : Nat → Array Bool → List (List Nat)
  | 0, _ => [[]]
  | n + 1, listed => match Region.ready md ops listed with
    | [] => [[]]
    | x :: r => (x :: r).flatMap fun i => (ordersOf md ops n (listed.setIfInBounds i true)).map (i :: ·)
theorem order_mem {md : Region.Mode} {ops : Array Oper} : ∀ (n t : Nat) (listed : Array Bool), Region.linearise.go md ops n t listed [] ∈ ordersOf md ops n listed := by
  intro n
  induction n with
  | zero => intro t listed; simp [Region.linearise.go, ordersOf]
  | succ n ih =>
    intro t listed
    simp only [Region.linearise.go, ordersOf]
    change (match (Region.ready md ops listed)[t % (Region.ready md ops listed).length]? with
      | some i => Region.linearise.go md ops n (t / (Region.ready md ops listed).length) (listed.setIfInBounds i true) [i]
      | none => [].reverse) ∈ _
    cases hr : Region.ready md ops listed with
    | nil => simp
    | cons x r =>
      have hlt : t % (x :: r).length < (x :: r).length := Nat.mod_lt _ (by simp)
      rw [List.getElem?_eq_getElem hlt]
      simp only []
      rw [linearise_go_acc, List.reverse_singleton, List.singleton_append]
      exact List.mem_flatMap.2 ⟨_, List.getElem_mem hlt, List.mem_map.2 ⟨_, ih _ _, rfl⟩⟩
theorem WalkN.region_any {id : Nat} {ops : Array Oper} {L : List (List Nat)} (hm : P.follows .mixedOrders = true) (hL : ordersOf .any ops ops.size (Array.replicate ops.size false) = L) (h : ∀ l ∈ L, WalkO P ops l Q a { w with drawn := w.drawn + 1 }) : WalkN P (.region id ops true) Q a w :=
  WalkN.region_draw fun t => h _ (by
    rw [← hL]
    simp only [Region.schedule, hm, Bool.true_or, if_true]
    exact order_mem _ _ _)
/-- From the walk of a body to the call. -/
theorem calls_of_walkN {f : FuncId} {fn : Func} {c : Code} {args : Array Value} {R : Ending → World → Prop} (hf : P.funcs[f]? = some fn) (hc : fn.body = some c)
    (h : WalkN P c (bodyPost P fn R) { tmps := args ++ Array.replicate (fn.ntmps - args.size) undef, defers := [] } w) (hno : ∀ w', ¬ R .outgrown w') : Calls P f args w R := by
  intro cs
  let b : Frame := { (default : Frame) with fn := f, kind := .normal, roundOf := none }
  have he : Frame.enter P f args .normal = b.at { tmps := args ++ Array.replicate (fn.ntmps - args.size) undef, defers := [] } [.code c] := by
    simp [Frame.enter, Frame.at, hf, hc, b]
  obtain ⟨e, a', w', hq, hr⟩ := h b [] cs rfl rfl
  rw [← he] at hr
  cases e with
  | normal =>
    obtain ⟨hd, v, hv, hR⟩ := hq
    exact ⟨.returned v, w', _, hR, Steps.trans hr (.one step_end), rfl, rfl, hd, rfl, fn, hf, hv⟩
  | ret =>
    obtain ⟨hd, v, hv, hR⟩ := hq
    obtain ⟨todo, hs⟩ := hr
    exact ⟨.returned v, w', _, hR, hs, rfl, rfl, hd, rfl, fn, hf, hv⟩
  | panic ch =>
    obtain ⟨hd, hR⟩ := hq
    obtain ⟨todo, hs⟩ := hr
    exact ⟨.panicked ch, w', _, hR, hs, rfl, rfl, hd, fn, hf⟩
  | exit id => exact hq.elim
  | goto l => exact hq.elim
  | outgrown => exact absurd hq (hno _)
end
end Go.Proofs.YtdbbejedipfckaaGreatDoor
/-
  A loop over an iterator, laid open: what a call of yield does, out of the walk of the loop's body; what the loop does, out of the iterator's call.
-/
namespace Go.Proofs.YtdbbejedipfckaaGreatDoor
open Go Go.RowKit

/-- The record of a loop over an iterator. -/
def recL (fn : FuncId) (tmps : Array Value) (ps : Array Tmp) (assign body : Code) (D : Nat) (st : LoopState) (pe : Option Code) : Loop :=
  { state := st, pending := pe, fn, tmps, params := ps, assign, body, defers := D }
/-- How a round may be left, and what it then answers to the iterator. -/
def roundG (l : Nat) (rec : LoopState → Option Code → Loop) (R : Ending → World → Prop) : Exit → Act → World → Prop
  | .normal, _, Z => Z.heap[l]? = some (.loop (rec .busy none)) ∧ R (.returned (.bool true)) (Z.putObj l (.loop (rec .ready none)))
  | .ret, _, Z => Z.heap[l]? = some (.loop (rec .busy none)) ∧ R (.returned (.bool false)) (Z.putObj l (.loop (rec .done (some .ret))))
  | .exit i, _, Z => Z.heap[l]? = some (.loop (rec .busy none)) ∧ R (.returned (.bool false)) (Z.putObj l (.loop (rec .done (some (.exit i)))))
  | _, _, _ => False
variable {P : Program}
theorem yield_round {m l : Nat} {fn : FuncId} {tmps : Array Value} {ps : Array Tmp} {assign body : Code} {D : Nat} {args : Array Value} {W : World} {R : Ending → World → Prop}
    (hl : W.heap[l]? = some (.loop (recL fn tmps ps assign body D .ready none))) (hps : args.size = ps.size)
    (h : ∀ K : Act → World → Prop, (∀ a' U, U.heap[l]? = some (.loop (recL fn tmps ps assign body D .ready none)) → body.wpIn (Fence.wide.inRound l) m P (roundG l (recL fn tmps ps assign body D) R) a' (U.putObj l (.loop (recL fn tmps ps assign body D .busy none))) → K a' U) →
      assign.wpIn (Fence.wide.inRound l) m P (Exit.then K (fun _ _ _ => False)) { tmps := (ps.zip args).foldl (fun t (p, v) => t.setIfInBounds p v) tmps, defers := [] } W) : YieldAt Fence.wide m P l args W R := by
  refine ⟨fn, _, assign, body, run_yield hl hps, roundIn_of_wpIn trivial (h _ fun a' U ul hb => ?_)⟩
  refine ⟨_, run_beginRound ul rfl, ?_⟩
  refine wpIn_mono hb ?_
  rintro e a3 Z hp
  cases e with
  | normal => exact ⟨_, _, run_endRound none hp.1, hp.2⟩
  | ret => exact ⟨_, _, run_endRound (some .ret) hp.1, hp.2⟩
  | exit i => exact ⟨_, _, run_endRound (some (.exit i)) hp.1, hp.2⟩
  | goto t => exact hp.elim
  | panic ch => exact hp.elim
  | outgrown => exact hp.elim
theorem range_lawF {F : Fence} {n : Nat} {g : Operand} {ps : Array Tmp} {assign body : Code} {Q : Exit → Act → World → Prop} {a : Act} {w : World} {gf : Nat} {lb : Array Value} (hro : F.round = none) (h1 : F.depth.isSome = true → 1 ≤ n) (hFg : F.fn gf) (hg : a.eval g = .func (.func gf) #[] lb) (eg : ∀ args w, (callFunc gf args).run P w = .ok (.enter gf args) w)
    (hcall : ∀ fn, CallsIn F (n - 1) P gf (#[.func (.yield (w.heap.size + 1)) #[] #[]] ++ lb) ((w.alloc (.deferred (some []))).alloc (.loop (recL fn a.tmps ps assign body w.heap.size .ready none))) fun e W' => (∃ v, e = .returned v) ∧
      ((W'.heap[w.heap.size + 1]? = some (.loop (recL fn a.tmps ps assign body w.heap.size .ready none)) ∧ Q .normal { a with defers := { target := .collected w.heap.size, args := #[] } :: a.defers } (W'.putObj (w.heap.size + 1) (.loop (recL fn a.tmps ps assign body w.heap.size .exhausted none)))) ∨
       ∃ c, W'.heap[w.heap.size + 1]? = some (.loop (recL fn a.tmps ps assign body w.heap.size .done (some c))) ∧ c.wpIn F n P Q { a with defers := { target := .collected w.heap.size, args := #[] } :: a.defers } (W'.putObj (w.heap.size + 1) (.loop (recL fn a.tmps ps assign body w.heap.size .exhausted (some c)))))) :
    (Code.rangeFunc g ps assign body).wpIn F n P Q a w := by
  refine wpIn_rangeFunc fun fn _ => ?_
  rw [hro]
  have hc := hcall fn
  obtain ⟨V, hV⟩ : ∃ V, (w.alloc (.deferred (some []))).alloc (.loop (recL fn a.tmps ps assign body w.heap.size .ready none)) = V := ⟨_, rfl⟩
  rw [hV] at hc
  refine ⟨w.heap.size + 1, [{ target := .collected w.heap.size, args := #[] }], V, { target := .fn (.func gf) lb, args := #[.func (.yield (w.heap.size + 1)) #[] #[]] }, V, gf,
    #[.func (.yield (w.heap.size + 1)) #[] #[]] ++ lb, V, ?_, ?_, ?_, ?_, ?_, ?_⟩
  · rw [← hV]; exact run_enterLoop_outer _ _ _ _ _
  · simp only [resolve, hg]; simp [go_sem]
  · intro f' hf'; simp [Target.leads] at hf'; subst hf'; exact hFg
  · simp [invoke, go_sem, eg]
  · exact h1
  · refine hc.mono ?_
    rintro e Z ⟨⟨v, rfl⟩, (⟨hl, hq⟩ | ⟨c, hl, hq⟩)⟩
    · exact ⟨none, _, run_endLoop hl (by simp [recL]), hq⟩
    · exact ⟨some c, _, run_endLoop hl (by simp [recL]), hq⟩
/-- The same, the record under a letter: of it no more is known than what a call of yield does. -/
theorem range_lawG {n : Nat} {g : Operand} {ps : Array Tmp} {assign body : Code} {Q : Exit → Act → World → Prop} {a : Act} {w : World} {gf : Nat} {lb : Array Value} (hg : a.eval g = .func (.func gf) #[] lb) (eg : ∀ args w, (callFunc gf args).run P w = .ok (.enter gf args) w)
    (hcall : ∀ rec : LoopState → Option Code → Loop,
      (∀ (m : Nat) (args : Array Value) (W : World) (R : Ending → World → Prop), W.heap[w.heap.size + 1]? = some (.loop (rec .ready none)) → args.size = ps.size →
        (∀ K : Act → World → Prop, (∀ a' U, U.heap[w.heap.size + 1]? = some (.loop (rec .ready none)) → body.wpIn (Fence.wide.inRound (w.heap.size + 1)) m P (roundG (w.heap.size + 1) rec R) a' (U.putObj (w.heap.size + 1) (.loop (rec .busy none))) → K a' U) →
          assign.wpIn (Fence.wide.inRound (w.heap.size + 1)) m P (Exit.then K (fun _ _ _ => False)) { tmps := (ps.zip args).foldl (fun t (p, v) => t.setIfInBounds p v) a.tmps, defers := [] } W) → YieldAt Fence.wide m P (w.heap.size + 1) args W R) →
      CallsIn Fence.wide (n - 1) P gf (#[.func (.yield (w.heap.size + 1)) #[] #[]] ++ lb) ((w.alloc (.deferred (some []))).alloc (.loop (rec .ready none))) fun e W' => (∃ v, e = .returned v) ∧
        ((W'.heap[w.heap.size + 1]? = some (.loop (rec .ready none)) ∧ Q .normal { a with defers := { target := .collected w.heap.size, args := #[] } :: a.defers } (W'.putObj (w.heap.size + 1) (.loop (rec .exhausted none)))) ∨
         ∃ c, W'.heap[w.heap.size + 1]? = some (.loop (rec .done (some c))) ∧ c.wpIn Fence.wide n P Q { a with defers := { target := .collected w.heap.size, args := #[] } :: a.defers } (W'.putObj (w.heap.size + 1) (.loop (rec .exhausted (some c)))))) :
    (Code.rangeFunc g ps assign body).wpIn Fence.wide n P Q a w :=
  range_lawF (F := Fence.wide) rfl (fun h => (by cases h)) trivial hg eg (fun fn => hcall (recL fn a.tmps ps assign body w.heap.size) (fun _ _ _ _ hl hps h => yield_round hl hps h))
end Go.Proofs.YtdbbejedipfckaaGreatDoor
