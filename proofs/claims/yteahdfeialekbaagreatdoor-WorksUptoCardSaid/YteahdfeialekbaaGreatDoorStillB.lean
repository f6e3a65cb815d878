/-
  The project's small makers: copies of lists, whether there may be a run of such numbers, the first task.
-/
import Derived.Test.YteahdfeialekbaaGreatDoorRefNew2
import Derived.Lib.LazyBuf
import Derived.Test.YteahdfeialekbaaGreatDoorLinkOn
import Derived.Test.YteahdfeialekbaaGreatDoorTakeM
import Derived.Test.YteahdfeialekbaaGreatDoorLikeM
namespace Go.Proofs.YteahdfeialekbaaGreatDoor
open Go Go.RowKit
theorem eqlKids (a : Option Addr) (l c : Nat) (w : World) : (binOp .eql 109 (.slice a l c) (.slice none 0 0)).run Tryz.prog w = .ok (.bool a.isNone) w := run_eql_slice_nil w _ _ a l c Tryz.underlying109
theorem eqlKinds (a : Option Addr) (l c : Nat) (w : World) : (binOp .eql 40 (.slice a l c) (.slice none 0 0)).run Tryz.prog w = .ok (.bool a.isNone) w := run_eql_slice_nil w _ _ a l c Tryz.underlying40
theorem eqlTasks (a : Option Addr) (l c : Nat) (w : World) : (binOp .eql 52 (.slice a l c) (.slice none 0 0)).run Tryz.prog w = .ok (.bool a.isNone) w := run_eql_slice_nil w _ _ a l c Tryz.underlying52
attribute [local go_sem] eqlKids eqlKinds eqlTasks
def kidEnc (c : KidS) : List Value := [.int .i64 c.kind, .int .i64 c.less]
def kindEnc (p : KindS × Value) : List Value := [.int .i64 p.1.A, .int .i64 p.1.B, p.2]
theorem kidEnc_one (x : KidS) : ∀ u ∈ kidEnc x, u.oneCell' = true := by simp [kidEnc, Value.oneCell']
theorem kinds_list {ok : Nat -> Prop} {W : World} {v : Value} {ks : List KindS} (h : KindsAt ok W v ks) : ∃ l : List (KindS × Value), l.map Prod.fst = ks /\ ListAt 3 kindEnc W v l /\ ∀ p ∈ l, KidsAt ok W p.2 p.1.kids := by
 obtain ⟨a, cap, rfl, hc⟩ := h
 have key : ∀ n, n <= ks.length -> ∃ l : List (KindS × Value), l.map Prod.fst = ks.take n /\ (∀ j x, l[j]? = some x -> ∃ g o, a = some ⟨g, o, none⟩ /\ g < W.heap.size /\ ∀ i u, (kindEnc x)[i]? = some u -> W.cell? ⟨g, o + j * 3 + i, none⟩ = some u) /\ ∀ p ∈ l, KidsAt ok W p.2 p.1.kids := by
  intro n
  induction n with
  | zero => exact fun _ => ⟨[], by simp, by simp, by simp⟩
  | succ n ih =>
   intro hn
   obtain ⟨l, h1, h2, h3⟩ := ih (by omega)
   have hl : l.length = n := by have := congrArg List.length h1; simp at this; omega
   obtain ⟨c, hcc⟩ : ∃ c, ks[n]? = some c := ⟨_, List.getElem?_eq_getElem (by omega)⟩
   obtain ⟨b, o, kv, ha, hok, hb, c0, c1, c2, hk⟩ := hc n c hcc
   refine ⟨l ++ [(c, kv)], ?_, fun j x hx => ?_, fun p hp => ?_⟩
   ·rw [List.map_append, h1, List.take_add_one, hcc]; rfl
   ·rcases get_snoc hx with ⟨_, hx'⟩ | ⟨hj, rfl⟩
    ·exact h2 j x hx'
    ·rw [hl] at hj
     subst hj
     refine ⟨b, o, ha, hb, fun i u hi => ?_⟩
     match i, hi with
     | 0, hi => cases hi; exact c0
     | 1, hi => cases hi; exact c1
     | 2, hi => cases hi; exact c2
     | (m + 3), hi => simp [kindEnc] at hi
   ·rcases List.mem_append.1 hp with h | h
    ·exact h3 p h
    ·simp only [List.mem_singleton] at h
     subst h
     exact hk
 obtain ⟨l, h1, h2, h3⟩ := key ks.length (Nat.le_refl _)
 rw [List.take_length] at h1
 have hl : l.length = ks.length := by rw [<- h1]; simp
 exact ⟨l, h1, ⟨a, cap, by rw [hl], h2⟩, h3⟩
theorem kids_list {ok : Nat -> Prop} {W : World} {v : Value} {l : List KidS} (h : KidsAt ok W v l) : ListAt 2 kidEnc W v l := by
 obtain ⟨a, cap, rfl, hc⟩ := h
 refine ⟨a, cap, rfl, fun j x hx => ?_⟩
 obtain ⟨b, o, ha, hok, hb, c0, c1⟩ := hc j x hx
 refine ⟨b, o, ha, hb, fun i u hi => ?_⟩
 match i, hi with
 | 0, hi => cases hi; exact c0
 | 1, hi => cases hi; exact c1
 | (m + 2), hi => simp [kidEnc] at hi
set_option maxHeartbeats 1000000 in
set_option maxRecDepth 100000 in
theorem cloneD_calls (v : Value) (l : List KidS) (w : World) (hv : ListAt 2 kidEnc w v l) (hl : l.length <= 1000000) :
  Calls Tryz.prog 113 #[v] w fun e w' => ∃ v', e = .returned v' /\ w'.ownsRow w.heap.size 108 2 v' l.length (l.flatMap kidEnc) /\ Below w.heap.size w w' := by
 obtain ⟨i1, hi1, hy0, hy1, hy2⟩ := info_parts infoKid
 obtain ⟨a, cap, rfl, hc⟩ := hv
 cases a with
 | none =>
  have hl0 : l = [] := by
   cases l with
   | nil => rfl
   | cons x r => obtain ⟨g, o, e, _⟩ := hc 0 x rfl; cases e
  subst hl0
  go_enter Tryz.func113, Tryz.ntmps113
  go_wp2_with fail
  go_ret
  exact ⟨_, rfl, World.ownsRow_nil _ _ _ _, Below.refl _ _⟩
 | some ad =>
  have HN : Hid (∀ j u, (l.flatMap kidEnc)[j]? = some u -> ∃ b, (some ad : Option Addr) = some b /\ (w.alloc (Obj.cells #[] 108)).cell? (b.add j) = some u) := fun j u hj => by
   have hlt : j < l.length * 2 := by rw [<- flat_length (sz := 2) (enc := kidEnc) (fun _ => rfl) l]; exact (List.getElem?_eq_some_iff.1 hj).1
   obtain ⟨x, hx⟩ : ∃ x, l[j / 2]? = some x := ⟨_, List.getElem?_eq_getElem (by omega)⟩
   obtain ⟨u', hu'⟩ : ∃ u', (kidEnc x)[j % 2]? = some u' := ⟨_, List.getElem?_eq_getElem (by show j % 2 < 2; omega)⟩
   have h1 := flat_get (sz := 2) (enc := kidEnc) (fun _ => rfl) l _ x _ u' hx hu'
   rw [show j / 2 * 2 + j % 2 = j from by omega, hj] at h1
   obtain ⟨g, o, e, hg, hcc⟩ := hc _ x hx
   cases e
   have h2 := hcc _ u' hu'
   rw [Nat.add_assoc, show j / 2 * 2 + j % 2 = j from by omega] at h2
   cases h1
   have hadd : (⟨g, o, none⟩ : Addr).add j = ⟨g, o + j, none⟩ := by unfold Addr.add; split <;> simp_all
   exact ⟨_, rfl, by rw [hadd]; exact cell_alloc _ h2⟩
  have HE : Hid ((w.alloc (Obj.cells #[] 108)).ownsRow w.heap.size 108 2 (.slice (some ⟨w.heap.size, 0, none⟩) 0 0) 0 []) := World.ownsRow_lit (base := w.heap.size) (e := 108) (size := 2) w #[] 0 (Nat.le_refl _) (by unfold maxLen; omega) rfl
  have HL : Hid ((l.flatMap kidEnc).length = l.length * 2) := flat_length (sz := 2) (enc := kidEnc) (fun _ => rfl) l
  clear hc
  go_enter Tryz.func113, Tryz.ntmps113
  go_wp2_with (at_builtin; refine wpList_append_any rfl _ _ _ rfl w.heap.size 108 i1 _ 2 16 Tryz.underlying109 hi1 hy0 hy1 hy2 rfl (by omega) (.slice (some ⟨w.heap.size, 0, none⟩) 0 0) 0 [] rfl HE.out (some ad) l.length cap (l.flatMap kidEnc) rfl HL.out HN.out (flat_one kidEnc_one _) (by unfold maxLen; omega) (by omega) (by simp) ?_; intro v3 w3 hown3 hgrow3; rw [Nat.zero_add, List.nil_append] at hown3; obtain ⟨a3, c3, rfl⟩ := row_form hown3)
  go_ret
  refine ⟨_, rfl, hown3, ?_⟩
  exact ((Below.refl _ _).alloc (Nat.le_refl _) _).trans ((Kept.grown hgrow3 (X := fun b => w.heap.size <= b) (fun r e => by simp [Value.ownBlock] at e; omega)).below (by simp) (fun _ h => h))
set_option maxHeartbeats 1000000 in
set_option maxRecDepth 100000 in
theorem cloneT_calls (v : Value) (l : List TaskS) (w : World) (hv : ListAt 3 taskEnc w v l) (hl : l.length <= 1000000) :
  Calls Tryz.prog 154 #[v] w fun e w' => ∃ v', e = .returned v' /\ w'.ownsRow w.heap.size 76 3 v' l.length (l.flatMap taskEnc) /\ Below w.heap.size w w' := by
 obtain ⟨i1, hi1, hy0, hy1, hy2⟩ := info_parts infoTask
 obtain ⟨a, cap, rfl, hc⟩ := hv
 cases a with
 | none =>
  have hl0 : l = [] := by
   cases l with
   | nil => rfl
   | cons x r => obtain ⟨g, o, e, _⟩ := hc 0 x rfl; cases e
  subst hl0
  go_enter Tryz.func154, Tryz.ntmps154
  go_wp2_with fail
  go_ret
  exact ⟨_, rfl, World.ownsRow_nil _ _ _ _, Below.refl _ _⟩
 | some ad =>
  have HN : Hid (∀ j u, (l.flatMap taskEnc)[j]? = some u -> ∃ b, (some ad : Option Addr) = some b /\ (w.alloc (Obj.cells #[] 76)).cell? (b.add j) = some u) := fun j u hj => by
   have hlt : j < l.length * 3 := by rw [<- flat_length (sz := 3) (enc := taskEnc) (fun _ => rfl) l]; exact (List.getElem?_eq_some_iff.1 hj).1
   obtain ⟨x, hx⟩ : ∃ x, l[j / 3]? = some x := ⟨_, List.getElem?_eq_getElem (by omega)⟩
   obtain ⟨u', hu'⟩ : ∃ u', (taskEnc x)[j % 3]? = some u' := ⟨_, List.getElem?_eq_getElem (by show j % 3 < 3; omega)⟩
   have h1 := flat_get (sz := 3) (enc := taskEnc) (fun _ => rfl) l _ x _ u' hx hu'
   rw [show j / 3 * 3 + j % 3 = j from by omega, hj] at h1
   obtain ⟨g, o, e, hg, hcc⟩ := hc _ x hx
   cases e
   have h2 := hcc _ u' hu'
   rw [Nat.add_assoc, show j / 3 * 3 + j % 3 = j from by omega] at h2
   cases h1
   have hadd : (⟨g, o, none⟩ : Addr).add j = ⟨g, o + j, none⟩ := by unfold Addr.add; split <;> simp_all
   exact ⟨_, rfl, by rw [hadd]; exact cell_alloc _ h2⟩
  have HE : Hid ((w.alloc (Obj.cells #[] 76)).ownsRow w.heap.size 76 3 (.slice (some ⟨w.heap.size, 0, none⟩) 0 0) 0 []) := World.ownsRow_lit (base := w.heap.size) (e := 76) (size := 3) w #[] 0 (Nat.le_refl _) (by unfold maxLen; omega) rfl
  have HL : Hid ((l.flatMap taskEnc).length = l.length * 3) := flat_length (sz := 3) (enc := taskEnc) (fun _ => rfl) l
  clear hc
  go_enter Tryz.func154, Tryz.ntmps154
  go_wp2_with (at_builtin; refine wpList_append_any rfl _ _ _ rfl w.heap.size 76 i1 _ 3 32 Tryz.underlying52 hi1 hy0 hy1 hy2 rfl (by omega) (.slice (some ⟨w.heap.size, 0, none⟩) 0 0) 0 [] rfl HE.out (some ad) l.length cap (l.flatMap taskEnc) rfl HL.out HN.out (flat_one taskEnc_one _) (by unfold maxLen; omega) (by omega) (by simp) ?_; intro v3 w3 hown3 hgrow3; rw [Nat.zero_add, List.nil_append] at hown3; obtain ⟨a3, c3, rfl⟩ := row_form hown3)
  go_ret
  refine ⟨_, rfl, hown3, ?_⟩
  exact ((Below.refl _ _).alloc (Nat.le_refl _) _).trans ((Kept.grown hgrow3 (X := fun b => w.heap.size <= b) (fun r e => by simp [Value.ownBlock] at e; omega)).below (by simp) (fun _ h => h))
set_option maxHeartbeats 1000000 in
set_option maxRecDepth 100000 in
theorem cloneK_calls (v : Value) (l : List (KindS × Value)) (w : World) (hv : ListAt 3 kindEnc w v l) (hl : l.length <= 1000000) (h1 : ∀ p ∈ l, p.2.oneCell' = true) :
  Calls Tryz.prog 112 #[v] w fun e w' => ∃ v', e = .returned v' /\ w'.ownsRow w.heap.size 111 3 v' l.length (l.flatMap kindEnc) /\ Below w.heap.size w w' := by
 obtain ⟨i1, hi1, hy0, hy1, hy2⟩ := info_parts infoKind
 obtain ⟨a, cap, rfl, hc⟩ := hv
 cases a with
 | none =>
  have hl0 : l = [] := by
   cases l with
   | nil => rfl
   | cons x r => obtain ⟨g, o, e, _⟩ := hc 0 x rfl; cases e
  subst hl0
  go_enter Tryz.func112, Tryz.ntmps112
  go_wp2_with fail
  go_ret
  exact ⟨_, rfl, World.ownsRow_nil _ _ _ _, Below.refl _ _⟩
 | some ad =>
  have HN : Hid (∀ j u, (l.flatMap kindEnc)[j]? = some u -> ∃ b, (some ad : Option Addr) = some b /\ (w.alloc (Obj.cells #[] 111)).cell? (b.add j) = some u) := fun j u hj => by
   have hlt : j < l.length * 3 := by rw [<- flat_length (sz := 3) (enc := kindEnc) (fun _ => rfl) l]; exact (List.getElem?_eq_some_iff.1 hj).1
   obtain ⟨x, hx⟩ : ∃ x, l[j / 3]? = some x := ⟨_, List.getElem?_eq_getElem (by omega)⟩
   obtain ⟨u', hu'⟩ : ∃ u', (kindEnc x)[j % 3]? = some u' := ⟨_, List.getElem?_eq_getElem (by show j % 3 < 3; omega)⟩
   have h1 := flat_get (sz := 3) (enc := kindEnc) (fun _ => rfl) l _ x _ u' hx hu'
   rw [show j / 3 * 3 + j % 3 = j from by omega, hj] at h1
   obtain ⟨g, o, e, hg, hcc⟩ := hc _ x hx
   cases e
   have h2 := hcc _ u' hu'
   rw [Nat.add_assoc, show j / 3 * 3 + j % 3 = j from by omega] at h2
   cases h1
   have hadd : (⟨g, o, none⟩ : Addr).add j = ⟨g, o + j, none⟩ := by unfold Addr.add; split <;> simp_all
   exact ⟨_, rfl, by rw [hadd]; exact cell_alloc _ h2⟩
  have HE : Hid ((w.alloc (Obj.cells #[] 111)).ownsRow w.heap.size 111 3 (.slice (some ⟨w.heap.size, 0, none⟩) 0 0) 0 []) := World.ownsRow_lit (base := w.heap.size) (e := 111) (size := 3) w #[] 0 (Nat.le_refl _) (by unfold maxLen; omega) rfl
  have HL : Hid ((l.flatMap kindEnc).length = l.length * 3) := flat_length (sz := 3) (enc := kindEnc) (fun _ => rfl) l
  have H1 : Hid (∀ u ∈ l.flatMap kindEnc, u.oneCell' = true) := fun u hu => by
   obtain ⟨x, hx, hux⟩ := List.mem_flatMap.1 hu
   simp [kindEnc] at hux
   rcases hux with rfl | rfl | rfl
   ·rfl
   ·rfl
   ·exact h1 x hx
  clear hc
  go_enter Tryz.func112, Tryz.ntmps112
  go_wp2_with (at_builtin; refine wpList_append_any rfl _ _ _ rfl w.heap.size 111 i1 _ 3 40 Tryz.underlying40 hi1 hy0 hy1 hy2 rfl (by omega) (.slice (some ⟨w.heap.size, 0, none⟩) 0 0) 0 [] rfl HE.out (some ad) l.length cap (l.flatMap kindEnc) rfl HL.out HN.out H1.out (by unfold maxLen; omega) (by omega) (by simp) ?_; intro v3 w3 hown3 hgrow3; rw [Nat.zero_add, List.nil_append] at hown3; obtain ⟨a3, c3, rfl⟩ := row_form hown3)
  go_ret
  refine ⟨_, rfl, hown3, ?_⟩
  exact ((Below.refl _ _).alloc (Nat.le_refl _) _).trans ((Kept.grown hgrow3 (X := fun b => w.heap.size <= b) (fun r e => by simp [Value.ownBlock] at e; omega)).below (by simp) (fun _ h => h))
set_option maxHeartbeats 1000000 in
set_option maxRecDepth 100000 in
theorem isConfig_calls (workers room mode : Int) (w : World) :
  Calls Tryz.prog 68 #[.agg #[.int .i64 workers, .int .i64 room, .int .i64 mode]] w fun e w' => e = .returned (.bool (cfgB workers room mode)) /\ Below w.heap.size w w' := by
 have hcfg : cfgB workers room mode = ((decide (2 <= workers) && decide (workers <= 5)) && (decide (1 <= room) && decide (room <= 20)) && ((mode == 1) || (mode == 2))) := by
  have e1 : decide (mode = 1) = (mode == 1) := by rw [Bool.eq_iff_iff]; simp
  have e2 : decide (mode = 2) = (mode == 2) := by rw [Bool.eq_iff_iff]; simp
  unfold cfgB
  rw [e1, e2]
  simp [Bool.and_assoc]
 obtain ⟨V, hV⟩ : ∃ V, w.alloc (Obj.cells #[.int .i64 workers, .int .i64 room, .int .i64 mode] 39) = V := ⟨_, rfl⟩
 have hb : Below w.heap.size w V := by rw [<- hV]; exact (Below.refl _ _).alloc (Nat.le_refl _) _
 have bC : BoxAt V w.heap.size 39 #[.int .i64 workers, .int .i64 room, .int .i64 mode] := by rw [<- hV]; exact BoxAt.new w _ _
 have c0 := bC.cell (o := 0) rfl
 have c1 := bC.cell (o := 1) rfl
 have c2 := bC.cell (o := 2) rfl
 have HB := hid_of hb
 obtain ⟨res, hres⟩ : ∃ res, cfgB workers room mode = res := ⟨_, rfl⟩
 rw [hres]
 rw [hres] at hcfg
 have HC := hid_of hcfg
 clear hb hcfg bC hres
 go_enter Tryz.func68, Tryz.ntmps68
 go_upto_region 1 with fail
 clear hV
 go_cut [3] (fun b wx => b = .bool (decide (2 <= workers) && decide (workers <= 5)) /\ V = wx)
 case first =>
  by_cases h1 : 2 <= workers
  ·by_cases h2 : workers <= 5
   ·go_wp2_with fail
    go_meet
    case rel => exact ⟨by rw [decide_eq_true h1, decide_eq_true h2]; rfl, rfl⟩
   ·go_wp2_with fail
    go_meet
    case rel => exact ⟨by rw [decide_eq_true h1, decide_eq_false (show ¬ workers <= 5 by omega)]; rfl, rfl⟩
  ·go_wp2_with fail
   go_meet
   case rel => exact ⟨by rw [decide_eq_false (show ¬ 2 <= workers by omega)]; rfl, rfl⟩
 case rest =>
  obtain ⟨rfl, rfl⟩ := hcut
  obtain ⟨x1, hx1⟩ : ∃ x1, (decide (2 <= workers) && decide (workers <= 5)) = x1 := ⟨_, rfl⟩
  rw [hx1] at HC ⊢
  clear hx1
  go_upto_region 2 with fail
  go_cut [4] (fun b wx => b = .bool (decide (1 <= room) && decide (room <= 20)) /\ V = wx)
  case first =>
   by_cases h1 : 1 <= room
   ·by_cases h2 : room <= 20
    ·go_wp2_with fail
     go_meet
     case rel => exact ⟨by rw [decide_eq_true h1, decide_eq_true h2]; rfl, rfl⟩
    ·go_wp2_with fail
     go_meet
     case rel => exact ⟨by rw [decide_eq_true h1, decide_eq_false (show ¬ room <= 20 by omega)]; rfl, rfl⟩
   ·go_wp2_with fail
    go_meet
    case rel => exact ⟨by rw [decide_eq_false (show ¬ 1 <= room by omega)]; rfl, rfl⟩
  case rest =>
   obtain ⟨rfl, rfl⟩ := hcut
   obtain ⟨x2, hx2⟩ : ∃ x2, (decide (1 <= room) && decide (room <= 20)) = x2 := ⟨_, rfl⟩
   rw [hx2] at HC ⊢
   clear hx2
   go_upto_region 3 with fail
   go_cut [5] (fun b wx => b = .bool ((mode == 1) || (mode == 2)) /\ V = wx)
   case first =>
    cases h1 : (mode == 1)
    ·go_wp2_with fail
     go_meet
     case rel => exact ⟨by rw [h1]; rfl, rfl⟩
    ·go_wp2_with fail
     go_meet
     case rel => exact ⟨by rw [h1]; rfl, rfl⟩
   case rest =>
    obtain ⟨rfl, rfl⟩ := hcut
    obtain ⟨x3, hx3⟩ : ∃ x3, ((mode == 1) || (mode == 2)) = x3 := ⟨_, rfl⟩
    rw [hx3] at HC ⊢
    clear hx3
    cases x1 <;> cases x2
    all_goals
     go_wp2_with fail
     go_ret
     refine ⟨?_, HB.out⟩
     rw [HC.out]
     rfl
end Go.Proofs.YteahdfeialekbaaGreatDoor
namespace Go.Proofs.YteahdfeialekbaaGreatDoor
open Go Go.RowKit
set_option maxHeartbeats 8000000 in
set_option maxRecDepth 100000 in
theorem fullB_calls (G : Nat -> Nat -> Prop) (x : Bk) (w : World) (hm : MarkedB w G x) :
  Calls Tryz.prog 62 #[.agg #[.int .i64 x.1, x.2.1, x.2.2.1, x.2.2.2]] w fun e w' => e = .returned (.bool true) /\ Below w.heap.size w w' := by
 obtain ⟨N, v, t, m⟩ := x
 obtain ⟨⟨aV, nV, cV, hvV, ⟨hnV, hN0, hN1⟩, hcV⟩, ⟨aT, nT, cT, hvT, ⟨hnT, -, -⟩, hcT⟩, ⟨aM, nM, cM, hvM, ⟨hnM, -, -⟩, hcM⟩⟩ := hm
 dsimp only at hvV hvT hvM hcV hcT hcM hN0 hN1 ⊢
 subst hvV hvT hvM
 have HCV := hid_of hcV
 have HCT := hid_of hcT
 have HCM := hid_of hcM
 clear hcV hcT hcM
 have hsV := heldV
 have hgV := guardV
 have hsT := heldT
 have hgT := guardT
 have hsM := heldM
 have hgM := guardM
 go_enter Tryz.func62, Tryz.ntmps62
 go_upto_region 1 with fail
 obtain ⟨V, hV⟩ : ∃ V, w.alloc (Obj.cells #[.int .i64 N, .slice aV nV cV, .slice aT nT cT, .slice aM nM cM] 106) = V := ⟨_, rfl⟩
 have bX : BoxAt V w.heap.size 106 #[.int .i64 N, .slice aV nV cV, .slice aT nT cT, .slice aM nM cM] := by rw [<- hV]; exact BoxAt.new w _ _
 have hbV : Below w.heap.size w V := by rw [<- hV]; exact (Below.refl _ _).alloc (Nat.le_refl _) _
 rw [hV]
 clear hV
 have HBX : Hid (BoxAt V w.heap.size 106 #[.int .i64 N, .slice aV nV cV, .slice aT nT cT, .slice aM nM cM]) := bX
 have hwr : IntKind.i64.wrap (-100000 - N) = -100000 - N := IntWalk.i64_in _ (by omega)
 have hwr2 : IntKind.i64.wrap (-N) = -N := IntWalk.i64_in _ (by omega)
 clear bX
 go_wp2_with fail
 go_loopw [3] (fun i wr => ∃ k : Nat, k <= nV /\ i = .int .i64 k /\ Below V.heap.size V wr) (fun i _ => nV - (intOf i).toNat)
 case atStart => exact ⟨0, Nat.zero_le _, rfl, Below.refl _ _⟩
 case round =>
  skip
  obtain ⟨k, hk, rfl, hbw⟩ := hrel
  rename World => wr
  have hbx := HBX.out.below hbw HBX.out.lt
  have x0 := hbx.cell (o := 0) rfl
  have x1 := hbx.cell (o := 1) rfl
  have x2 := hbx.cell (o := 2) rfl
  have x3 := hbx.cell (o := 3) rfl
  have HBW : Hid (Below V.heap.size V wr) := hbw
  clear hbx hbw
  by_cases hlt : k < nV
  ·obtain ⟨g, cs, hga, _, hb, hcc⟩ := HCV.out k hlt
   subst hga
   have hb2 := (hb.below hbV hb.lt).below HBW.out (Nat.lt_of_lt_of_le hb.lt hbV.size)
   have y0 := hb2.cell (hcc 0 _ rfl)
   have y1 := hb2.cell (hcc 1 _ rfl)
   simp only [sortV, Nat.add_zero] at y0 y1
   have i1 : (0 : Int) <= (k : Int) := by omega
   have i2 : (k : Int) < (nV : Int) := by omega
   clear hb hb2 hcc
   go_wp2_with fail
   go_quiet (fail)
   go_wp2_with fail
   go_roundw
   case rel => exact ⟨k + 1, by omega, by go_num, below_drewN HBW.out _⟩
   case measure => simp [intOf]; omega
  ·go_wp2_with fail
   go_loopw [4] (fun i wr => ∃ k : Nat, k <= nT /\ i = .int .i64 k /\ Below V.heap.size V wr) (fun i _ => nT - (intOf i).toNat)
   case atStart => exact ⟨0, Nat.zero_le _, rfl, HBW.out⟩
   case round =>
    clear HBW x0 x1 x2 x3
    obtain ⟨k, hk, rfl, hbw⟩ := hrel
    rename World => wr
    have hbx := HBX.out.below hbw HBX.out.lt
    have x0 := hbx.cell (o := 0) rfl
    have x1 := hbx.cell (o := 1) rfl
    have x2 := hbx.cell (o := 2) rfl
    have x3 := hbx.cell (o := 3) rfl
    have HBW : Hid (Below V.heap.size V wr) := hbw
    clear hbx hbw
    by_cases hlt : k < nT
    ·obtain ⟨g, cs, hga, _, hb, hcc⟩ := HCT.out k hlt
     subst hga
     have hb2 := (hb.below hbV hb.lt).below HBW.out (Nat.lt_of_lt_of_le hb.lt hbV.size)
     have y0 := hb2.cell (hcc 0 _ rfl)
     have y1 := hb2.cell (hcc 1 _ rfl)
     have y2 := hb2.cell (hcc 2 _ rfl)
     simp only [sortT, Nat.add_zero] at y0 y1 y2
     have i1 : (0 : Int) <= (k : Int) := by omega
     have i2 : (k : Int) < (nT : Int) := by omega
     clear hb hb2 hcc
     go_wp2_with fail
     go_quiet (fail)
     go_wp2_with fail
     go_roundw
     case rel => exact ⟨k + 1, by omega, by go_num, below_drewN HBW.out _⟩
     case measure => simp [intOf]; omega
    ·go_wp2_with fail
     go_loopw [5] (fun i wr => ∃ k : Nat, k <= nM /\ i = .int .i64 k /\ Below V.heap.size V wr) (fun i _ => nM - (intOf i).toNat)
     case atStart => exact ⟨0, Nat.zero_le _, rfl, HBW.out⟩
     case round =>
      clear HBW x0 x1 x2 x3
      obtain ⟨k, hk, rfl, hbw⟩ := hrel
      rename World => wr
      have hbx := HBX.out.below hbw HBX.out.lt
      have x0 := hbx.cell (o := 0) rfl
      have x1 := hbx.cell (o := 1) rfl
      have x2 := hbx.cell (o := 2) rfl
      have x3 := hbx.cell (o := 3) rfl
      have HBW : Hid (Below V.heap.size V wr) := hbw
      clear hbx hbw
      by_cases hlt : k < nM
      ·obtain ⟨g, cs, hga, _, hb, hcc⟩ := HCM.out k hlt
       subst hga
       have hb2 := (hb.below hbV hb.lt).below HBW.out (Nat.lt_of_lt_of_le hb.lt hbV.size)
       have y0 := hb2.cell (hcc 0 _ rfl)
       have y1 := hb2.cell (hcc 1 _ rfl)
       have y2 := hb2.cell (hcc 2 _ rfl)
       have y3 := hb2.cell (hcc 3 _ rfl)
       have y4 := hb2.cell (hcc 4 _ rfl)
       have y5 := hb2.cell (hcc 5 _ rfl)
       have y6 := hb2.cell (hcc 6 _ rfl)
       have y7 := hb2.cell (hcc 7 _ rfl)
       have y8 := hb2.cell (hcc 8 _ rfl)
       have y9 := hb2.cell (hcc 9 _ rfl)
       have y10 := hb2.cell (hcc 10 _ rfl)
       have y11 := hb2.cell (hcc 11 _ rfl)
       have y12 := hb2.cell (hcc 12 _ rfl)
       have y13 := hb2.cell (hcc 13 _ rfl)
       have y14 := hb2.cell (hcc 14 _ rfl)
       simp only [sortM, Nat.add_zero] at y0 y1 y2 y3 y4 y5 y6 y7 y8 y9 y10 y11 y12 y13 y14
       have i1 : (0 : Int) <= (k : Int) := by omega
       have i2 : (k : Int) < (nM : Int) := by omega
       clear hb hb2 hcc
       go_wp2_with fail
       go_quiet (fail)
       go_wp2_with fail
       go_roundw
       case rel => exact ⟨k + 1, by omega, by go_num, below_drewN HBW.out _⟩
       case measure => simp [intOf]; omega
      ·go_wp2_with fail
       go_ret
       exact ⟨rfl, hbV.trans (HBW.out.mono hbV.size)⟩
set_option maxHeartbeats 4000000 in
set_option maxRecDepth 100000 in
theorem stillB_calls (F : Nat -> Prop) (B N came : Nat) (w : World) (hI : BooksOK F w B N came) (hN : N <= 300000000000) :
  Calls Tryz.prog 23 #[.pointer (some ⟨B, 0, none⟩)] w fun e w' => e = .returned (.bool true) /\ Below w.heap.size w w' := by
 obtain ⟨lab, kV, wV, kT, wT, kM, wM, lV, lT, lM, bs, hlab, hbs, hX, ⟨hkV, -, hwV, -, hnV⟩, ⟨hkT, -, hwT, -, hnT⟩, ⟨hkM, -, hwM, -, hnM⟩⟩ := hI
 obtain ⟨vA, hbx, hr, -, -, hmk⟩ := hX
 have HBX : Hid (∀ W, Below w.heap.size w W -> BoxAt W B 56 (booksCells N came kV wV kT wT kM wM vA)) := fun W hW => hbx.below hW hbx.lt
 have HR : Hid (∀ W, Below w.heap.size w W -> W.ownsRow 0 106 4 vA bs.length (bkCells bs)) := fun W hW => row_below hr hW (fun g e => (hr.lt g e).2)
 have HM : Hid (∀ W, Below w.heap.size w W -> ∀ x ∈ bs, MarkedB W (fun b _ => lab b = 1) x) := fun W hW x hx => (hmk x hx).kept (Kept.of_below hW (X := fun b => w.heap.size <= b) (fun _ _ h => h)) (fun g n t cs _ hb _ h => by have := hb.lt; omega) (fun _ _ _ _ _ _ h => h)
 have b3 := hbx.cell (o := 3) rfl
 have b4 := hbx.cell (o := 4) rfl
 have HS1 : Hid (∀ W, Below w.heap.size w W -> Calls Tryz.prog 46 #[kV, wV] W fun e w' => ∃ v, e = .returned v /\ v = .bool true /\ Below w.heap.size w w') := fun W hW =>
  (likeV_calls _ _ lV W ((list_of_row (sz := 2) (enc := valEnc) (fun _ => rfl) hkV rfl).below hW (Nat.le_refl _)) ((list_of_row (sz := 2) (enc := valEnc) (fun _ => rfl) hwV rfl).below hW (Nat.le_refl _)) (by omega)).mono fun e w' h => ⟨_, h.1, rfl, hW.trans (h.2.mono hW.size)⟩
 have HS2 : Hid (∀ W, Below w.heap.size w W -> Calls Tryz.prog 39 #[kT, wT] W fun e w' => ∃ v, e = .returned v /\ v = .bool true /\ Below w.heap.size w w') := fun W hW =>
  (likeT_calls _ _ lT W ((list_of_row (sz := 3) (enc := taskEnc) (fun _ => rfl) hkT rfl).below hW (Nat.le_refl _)) ((list_of_row (sz := 3) (enc := taskEnc) (fun _ => rfl) hwT rfl).below hW (Nat.le_refl _)) (by omega)).mono fun e w' h => ⟨_, h.1, rfl, hW.trans (h.2.mono hW.size)⟩
 have HS3 : Hid (∀ W, Below w.heap.size w W -> Calls Tryz.prog 43 #[kM, wM] W fun e w' => ∃ v, e = .returned v /\ v = .bool true /\ Below w.heap.size w w') := fun W hW =>
  (likeM_calls _ _ lM W ((list_of_row (sz := 15) (enc := msgEnc) (fun _ => rfl) hkM rfl).below hW (Nat.le_refl _)) ((list_of_row (sz := 15) (enc := msgEnc) (fun _ => rfl) hwM rfl).below hW (Nat.le_refl _)) (by omega)).mono fun e w' h => ⟨_, h.1, rfl, hW.trans (h.2.mono hW.size)⟩
 have hbn : bs.length <= 1200000000000 := by omega
 clear hkV hwV hkT hwT hkM hwM hbx hr hmk hlab hbs
 go_enter Tryz.func23, Tryz.ntmps23
 go_upto_region 1 with fail
 go_cut [3] (fun s wx => s = .bool true /\ Below w.heap.size w wx)
 case first =>
  go_region_law (refine step_call2 (by rfl) 46 _ _ _ (by rfl) kV wV (by rfl) (by rfl) (enters_of Tryz.func46 (by kernel_rfl) rfl) (HS1.out _ (by first | exact Below.refl _ _ | exact (Below.refl _ _).drew)) ?_; rintro v9 w9 ⟨rfl, hb9⟩)
  all_goals
   go_wp2_with fail
   go_meet
   case rel => exact ⟨rfl, by assumption⟩
 case rest =>
  obtain ⟨rfl, hw1⟩ := hcut
  rename World => w1
  have hbx1 := HBX.out w1 hw1
  clear b3 b4
  have b5 := hbx1.cell (o := 5) rfl
  have b6 := hbx1.cell (o := 6) rfl
  clear hbx1
  go_upto_region 2 with fail
  go_cut [4] (fun s wx => s = .bool true /\ Below w.heap.size w wx)
  case first =>
   go_region_law (refine step_call2 (by rfl) 39 _ _ _ (by rfl) kT wT (by rfl) (by rfl) (enters_of Tryz.func39 (by kernel_rfl) rfl) (HS2.out _ (by first | exact hw1 | exact hw1.drew)) ?_; rintro v9 w9 ⟨rfl, hb9⟩)
   all_goals
    go_wp2_with fail
    go_meet
    case rel => exact ⟨rfl, by assumption⟩
  case rest =>
   obtain ⟨rfl, hw2⟩ := hcut
   rename World => w2
   have hbx2 := HBX.out w2 hw2
   clear b5 b6
   have b7 := hbx2.cell (o := 7) rfl
   have b8 := hbx2.cell (o := 8) rfl
   clear hbx2
   go_upto_region 3 with fail
   go_cut [5] (fun s wx => s = .bool true /\ Below w.heap.size w wx)
   case first =>
    go_region_law (refine step_call2 (by rfl) 43 _ _ _ (by rfl) kM wM (by rfl) (by rfl) (enters_of Tryz.func43 (by kernel_rfl) rfl) (HS3.out _ (by first | exact hw2 | exact hw2.drew)) ?_; rintro v9 w9 ⟨rfl, hb9⟩)
    all_goals
     go_wp2_with fail
     go_meet
     case rel => exact ⟨rfl, by assumption⟩
   case rest =>
    obtain ⟨rfl, hw3⟩ := hcut
    rename World => w3
    have hr3 := HR.out w3 hw3
    have hbx3 := HBX.out w3 hw3
    obtain ⟨aA, cA, hvA⟩ := row_form hr3
    subst hvA
    have HB3 : Hid (BoxAt w3 B 56 (booksCells N came kV wV kT wT kM wM (.slice aA bs.length cA))) := hbx3
    have HR3 : Hid (w3.ownsRow 0 106 4 (.slice aA bs.length cA) bs.length (bkCells bs)) := hr3
    have HM3 : Hid (∀ x ∈ bs, MarkedB w3 (fun b _ => lab b = 1) x) := HM.out w3 hw3
    have b2 := hbx3.cell (o := 2) rfl
    have b9 := hbx3.cell (o := 9) rfl
    clear b7 b8 hr3 hbx3
    go_wp2_with fail
    go_loopw [6] (fun i wr => ∃ k : Nat, k <= bs.length /\ i = .int .i64 k /\ Below w3.heap.size w3 wr) (fun i _ => bs.length - (intOf i).toNat)
    case atStart => exact ⟨0, Nat.zero_le _, rfl, Below.refl _ _⟩
    case round =>
     obtain ⟨k, hk, rfl, hbw⟩ := hrel
     rename World => wr
     have hbx := HB3.out.below hbw HB3.out.lt
     clear b9 b2
     have b9 := hbx.cell (o := 9) rfl
     clear hbx
     have HBW : Hid (Below w3.heap.size w3 wr) := hbw
     by_cases hlt : k < bs.length
     ·obtain ⟨x, hx⟩ : ∃ x, bs[k]? = some x := ⟨_, List.getElem?_eq_getElem hlt⟩
      obtain ⟨g, cap, hgf, hg1, hg2⟩ := World.ownsRow.form HR3.out (by omega)
      obtain ⟨g0, g1, g2', g3⟩ := bkCells_get bs k x hx
      cases hgf
      have hcell : ∀ j u, (bkCells bs)[j]? = some u -> wr.cell? ⟨g, j, none⟩ = some u := fun j u hj => by
       have h1 := HR3.out.cells (g := g) rfl j u hj
       rw [Addr.add_lit, Nat.zero_add] at h1
       exact (hbw.cell (p := ⟨g, j, none⟩) hg2).trans h1
      have y0 := hcell _ _ g0
      have y1 := hcell _ _ g1
      have y2 := hcell _ _ g2'
      have y3 := hcell _ _ g3
      have hmk : MarkedB wr (fun b _ => lab b = 1) x := (HM3.out x (List.mem_of_getElem? hx)).kept (Kept.of_below hbw (X := fun b => w3.heap.size <= b) (fun _ _ h => h)) (fun g n t cs _ hb _ h => by have := hb.lt; omega) (fun _ _ _ _ _ _ h => h)
      have HMK : Hid (MarkedB wr (fun b _ => lab b = 1) x) := hmk
      obtain ⟨x1, xV, xT, xM⟩ := x
      obtain ⟨⟨a1, n1, c1, h1, -⟩, ⟨a2, n2, c2, h2, -⟩, ⟨a3, n3, c3, h3, -⟩⟩ := hmk
      dsimp only at h1 h2 h3
      subst h1 h2 h3
      dsimp only at y0 y1 y2 y3
      have i1 : (0 : Int) <= (k : Int) := by omega
      have i2 : (k : Int) < (bs.length : Int) := by omega
      clear hcell g0 g1 g2' g3 hbw
      go_wp2_with (go_at_call 62; refine (fullB_calls _ _ wr HMK.out).mono ?_; rintro e w9 ⟨rfl, hb9⟩)
      go_roundw
      case rel => exact ⟨k + 1, by omega, by go_num, HBW.out.trans (hb9.mono HBW.out.size)⟩
      case measure => simp [intOf]; omega
     ·go_wp2_with fail
      go_ret
      exact ⟨rfl, hw3.trans (HBW.out.mono hw3.size)⟩
end Go.Proofs.YteahdfeialekbaaGreatDoor
