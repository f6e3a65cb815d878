/-
  The document's own answers on one task (gleanref.value, gleanref.children): its value; a new list of its children.
-/
import Derived.Test.YtfanaanofjhlkaaDoorSame
import Derived.Laws.BytesArg
namespace Go.Proofs.YtfanaanofjhlkaaDoor
open Go Go.RowKit

set_option maxHeartbeats 400000 in
theorem ref_value_calls (kv : Value) (kind arg : Int) (ks : List KindS) (t : TaskS) (ok : Nat → Prop) (w : World) (hk : KindsAt ok w kv ks) (hp : progB ks kind arg = true) (h0 : 0 ≤ t.kind) (h1 : t.kind < ks.length) (h2 : 0 ≤ t.arg) (h3 : t.arg ≤ 12) :
    Calls Tryd.prog 24 #[.agg #[kv, .int .i64 kind, .int .i64 arg], taskV t] w fun e w' => e = .returned (.agg #[.string t.id, .int .i64 (valueOf ks t)]) ∧ Below w.heap.size w w' := by
  obtain ⟨id, k, x⟩ := t
  obtain ⟨a, cap, rfl, hc⟩ := hk
  simp only at h0 h1 h2 h3
  obtain ⟨j, rfl⟩ := Int.eq_ofNat_of_zero_le h0
  have hj : j < ks.length := by omega
  obtain ⟨c, hcc⟩ : ∃ c, ks[j]? = some c := ⟨_, List.getElem?_eq_getElem hj⟩
  obtain ⟨b, o, v, rfl, hok, hbw, c0, c1, c2, hkk⟩ := hc j c hcc
  obtain ⟨a', cap', rfl, h'⟩ := hkk
  have hkb : kindB ks.length c = true := by
    simp [progB] at hp
    exact hp.1.1.2 c (List.mem_of_getElem? hcc)
  have hA : -1000 ≤ c.A ∧ c.A ≤ 1000 := by simp [kindB, rangeB] at hkb; omega
  have hB : -1000 ≤ c.B ∧ c.B ≤ 1000 := by simp [kindB, rangeB] at hkb; omega
  have HV : Hid (valueOf ks ⟨id, (j : Int), x⟩ = c.A * x + c.B) := by simp [Hid, valueOf, kindAt, hcc]
  have hlen : ks.length ≤ 5 := by simp [progB, rangeB] at hp; omega
  have hm1 : -12000 ≤ c.A * x := by
    have := Int.mul_le_mul_of_nonneg_right hA.1 h2; omega
  have hm2 : c.A * x ≤ 12000 := by
    have := Int.mul_le_mul_of_nonneg_right hA.2 h2; omega
  clear hc h' hp hkb
  have e0 := cell_alloc3 c0
  have e1 := cell_alloc3 c1
  have e2 := cell_alloc3 c2
  unfold taskV
  go_enter Tryd.func24, Tryd.ntmps24
  go_wp2
  refine bodyPost_ret (v := .agg #[.string id, .int .i64 (c.A * x + c.B)]) (by simp [results, Tryd.results24, go_sem]) rfl ⟨?_, ?_⟩
  · rw [HV.out]
  · exact ((((Below.refl _ _).alloc (Nat.le_refl _) _).alloc (by simp) _).alloc (by simp; omega) _).alloc (by simp; omega) _

/-- A list of tasks as cells. -/
def tcells (l : List TaskS) : List Value := l.flatMap fun t => [.string t.id, .int .i64 t.kind, .int .i64 t.arg]
theorem tcells_snoc (l : List TaskS) (t : TaskS) : tcells (l ++ [t]) = tcells l ++ [.string t.id, .int .i64 t.kind, .int .i64 t.arg] := by simp [tcells]
theorem infoTask : (Tryd.prog.info? 53).map (fun i => (i.zero, i.size, i.bytes)) = some (some (.agg #[.string ⟨#[]⟩, .int .i64 0, .int .i64 0]), 3, 32) := by kernel_rfl
/-- The children among the first so many kids. -/
def kidsTo (id : ByteArray) (x : Int) (l : List KidS) : Nat → List TaskS
  | 0 => []
  | n + 1 => kidsTo id x l n ++ (match l[n]? with | some c => if c.less ≤ x then [⟨kidId id n, c.kind, x - c.less⟩] else [] | none => [])
theorem childrenFrom_snoc (id : ByteArray) (x : Int) : ∀ (l : List KidS) (i : Nat) (c : KidS), childrenFrom id x i (l ++ [c]) = childrenFrom id x i l ++ (if c.less ≤ x then [⟨kidId id (i + l.length), c.kind, x - c.less⟩] else [])
  | [], i, c => by simp only [List.nil_append, childrenFrom, List.length_nil, Nat.add_zero]
  | d :: r, i, c => by
    rw [List.cons_append]
    unfold childrenFrom
    rw [childrenFrom_snoc id x r (i + 1) c, List.length_cons, show i + 1 + r.length = i + (r.length + 1) from by omega]
    split <;> simp
theorem kidsTo_eq (id : ByteArray) (x : Int) (l : List KidS) : ∀ n, n ≤ l.length → kidsTo id x l n = childrenFrom id x 0 (l.take n)
  | 0, _ => by simp [kidsTo, childrenFrom]
  | n + 1, h => by
    have hn : n < l.length := h
    rw [List.take_succ_eq_append_getElem hn, childrenFrom_snoc, kidsTo, kidsTo_eq id x l n (by omega)]
    simp [List.getElem?_eq_getElem hn, List.length_take, Nat.min_eq_left (Nat.le_of_lt hn)]
theorem kidsTo_length (id : ByteArray) (x : Int) (l : List KidS) : ∀ n, (kidsTo id x l n).length ≤ n
  | 0 => by simp [kidsTo]
  | n + 1 => by
    have := kidsTo_length id x l n
    rw [kidsTo, List.length_append]
    have : (match l[n]? with | some c => if c.less ≤ x then [(⟨kidId id n, c.kind, x - c.less⟩ : TaskS)] else [] | none => []).length ≤ 1 := by
      split
      · split <;> simp
      · simp
    omega

set_option maxHeartbeats 2000000 in
set_option maxRecDepth 100000 in
theorem ref_children_calls (ok : Nat → Prop) (a : Option Addr) (cap : Nat) (kind arg : Int) (ks : List KindS) (t : TaskS) (w : World) (hk : KindsAt ok w (.slice a ks.length cap) ks) (hprog : progB ks kind arg = true) (hG : Good ks t) :
    Calls Tryd.prog 25 #[.agg #[.slice a ks.length cap, .int .i64 kind, .int .i64 arg], taskV t] w fun e w' => ∃ v, e = .returned v ∧ w'.ownsRow w.heap.size 53 3 v (children ks t).length (tcells (children ks t)) ∧ (children ks t = [] → v = .slice none 0 0) ∧ Below w.heap.size w w' := by
  obtain ⟨id, k, x⟩ := t
  obtain ⟨g0, g1, g2, g3⟩ := hG
  simp only at g0 g1 g2 g3
  obtain ⟨j, c, rfl, hcc, hkc, hkl, hkids, -, -⟩ := kind_facts hprog g0 g1
  have hlen5 : ks.length ≤ 5 := by simp [progB, rangeB] at hprog; omega
  obtain ⟨a1, cap1, hs1, hc⟩ := hk
  simp only [Value.slice.injEq] at hs1
  obtain ⟨rfl, -, rfl⟩ := hs1
  obtain ⟨b, o, v, rfl, hok, hbw, c0, c1, c2, hkk⟩ := hc j c hcc
  obtain ⟨a', cap', rfl, h'⟩ := hkk
  have HCH : Hid (children ks ⟨id, (j : Int), x⟩ = kidsTo id x c.kids c.kids.length) := by
    show children ks ⟨id, (j : Int), x⟩ = _
    rw [kidsTo_eq _ _ _ _ (Nat.le_refl _), List.take_length, children, hkc]
  have hx12 : x ≤ 12 := by omega
  have hidl : id.size ≤ 12 := by omega
  have e2 := cell_alloc (w := w.alloc (Obj.cells #[Value.slice (some ⟨b, o, none⟩) ks.length cap, .int .i64 kind, .int .i64 arg] 24)) (Obj.cells #[.string id, .int .i64 (j : Int), .int .i64 x] 53) (cell_alloc (w := w) (Obj.cells #[Value.slice (some ⟨b, o, none⟩) ks.length cap, .int .i64 kind, .int .i64 arg] 24) c2)
  clear hc c0 c1 hkc
  obtain ⟨i0, hi, hz0, hz1, hz2⟩ := info_parts infoTask
  unfold taskV
  go_enter Tryd.func25, Tryd.ntmps25
  go_wp2_with fail
  clear e2
  go_loopw [5, 7] (fun lv i wr => ∃ n : Nat, n ≤ c.kids.length ∧ i = .int .i64 n ∧ wr.ownsRow (w.heap.size + 1 + 1) 53 3 lv (kidsTo id x c.kids n).length (tcells (kidsTo id x c.kids n)) ∧ (kidsTo id x c.kids n = [] → lv = .slice none 0 0) ∧ Below w.heap.size w wr ∧ BoxAt wr (w.heap.size + 1) 53 #[.string id, .int .i64 (j : Int), .int .i64 x]) (fun _ i _ => c.kids.length - (intOf i).toNat)
  case atStart =>
    refine ⟨0, Nat.zero_le _, rfl, World.ownsRow_nil _ _ _ _, fun _ => rfl, ((Below.refl _ _).alloc (Nat.le_refl _) _).alloc (by simp) _, ?_⟩
    have := BoxAt.new (w.alloc (Obj.cells #[Value.slice (some ⟨b, o, none⟩) ks.length cap, .int .i64 kind, .int .i64 arg] 24)) 53 #[.string id, .int .i64 (j : Int), .int .i64 x]
    simpa only [World.size_alloc] using this
  case round =>
    obtain ⟨n, hn, rfl, hrow, hnil, hb, hbt⟩ := hrel
    have HNIL : Hid (kidsTo id x c.kids n = [] → u5 = .slice none 0 0) := hnil
    clear hnil
    rename World => Wo
    have hsz := hb.size
    have hltt := hbt.lt
    have t0 := hbt.cell (o := 0) rfl
    have t2 := hbt.cell (o := 2) rfl
    have HBT : Hid (BoxAt Wo (w.heap.size + 1) 53 #[.string id, .int .i64 (j : Int), .int .i64 x]) := hbt
    have HROW : Hid (Wo.ownsRow (w.heap.size + 1 + 1) 53 3 u5 (kidsTo id x c.kids n).length (tcells (kidsTo id x c.kids n))) := hrow
    have hlk := kidsTo_length id x c.kids n
    clear hbt
    by_cases hlt : n < c.kids.length
    · obtain ⟨d, hd⟩ : ∃ d, c.kids[n]? = some d := ⟨_, List.getElem?_eq_getElem hlt⟩
      obtain ⟨b', o', rfl, hok', hbw', d0, d1⟩ := h' n d hd
      have f0 := (hb.cell (p := ⟨b', o' + n * 2, none⟩) hbw').trans d0
      have f1 := (hb.cell (p := ⟨b', o' + n * 2 + 1, none⟩) hbw').trans d1
      have hd9 := hkids d (List.mem_of_getElem? hd)
      have i1 : (0 : Int) ≤ (n : Int) := by omega
      have i2 : (n : Int) < (c.kids.length : Int) := by omega
      clear hrow h' d0 d1
      by_cases hle : d.less ≤ x
      · have HKT : Hid (kidsTo id x c.kids (n + 1) = kidsTo id x c.kids n ++ [⟨kidId id n, d.kind, x - d.less⟩]) := by
          show kidsTo id x c.kids (n + 1) = _
          simp [kidsTo, hd, hle]
        have hconv : ∀ q, Sem.run Tryd.prog (convert 84 9 (Value.slice (some ⟨Wo.heap.size, 0, none⟩) 1 1)) ((Wo.drewN q).alloc (Obj.cells #[Value.int IntKind.u8 (48 + (n : Int))] 5)) = .ok (.string ⟨#[digit n]⟩) ((Wo.drewN q).alloc (Obj.cells #[Value.int IntKind.u8 (48 + (n : Int))] 5)) := fun q => by
          rw [run_convert_bytes_arg _ 84 5 Tryd.underlying84 Tryd.underlying5 Wo.heap.size 0 1 1 [48 + (n : Int)] rfl ?_ 9 Tryd.underlying9]
          · congr 2
          · intro i hi
            obtain rfl : i = 0 := by omega
            exact (BoxAt.new (Wo.drewN q) 5 #[Value.int IntKind.u8 (48 + (n : Int))]).cell (o := 0) rfl
        have s1 : ∀ v cs, (Wo.drewN v).heap.size = Wo.heap.size ∧ ((Wo.drewN v).alloc cs).heap.size = Wo.heap.size + 1 := fun v cs => ⟨rfl, by simp⟩
        go_wp2_with fail
        go_quiet (fail)
        go_wp2_with fail
        obtain ⟨U, hU⟩ : ∃ U, (Wo.drewN nq).alloc (Obj.cells #[Value.int IntKind.u8 (48 + (n : Int))] 5) = U := ⟨_, rfl⟩
        have kU : Kept (fun _ => False) Wo U := by rw [← hU]; exact ((Kept.refl _ _).drewN nq).trans (Kept.alloc _ _ _)
        have bU : Below w.heap.size w U := by rw [← hU]; exact (below_drewN hb nq).alloc hb.size _
        have sU : Wo.heap.size ≤ U.heap.size := kU.size
        have rU : Hid (U.ownsRow (w.heap.size + 1 + 1) 53 3 u5 (kidsTo id x c.kids n).length (tcells (kidsTo id x c.kids n))) := row_kept HROW.out kU (fun _ _ h => h) (Nat.le_refl _)
        have yU : Hid (BoxAt U (w.heap.size + 1) 53 #[.string id, .int .i64 (j : Int), .int .i64 x]) := HBT.out.kept kU (fun h => h)
        have hbs := hb.size
        have g0 := (kU.cell (p := ⟨b', o' + n * 2, none⟩) (by simp; omega) (fun h => h)).trans f0
        have g1 := (kU.cell (p := ⟨b', o' + n * 2 + 1, none⟩) (by simp; omega) (fun h => h)).trans f1
        have y2 := yU.out.cell (o := 2) rfl
        have y0 := yU.out.cell (o := 0) rfl
        rw [hU]
        clear hU hconv s1 f0 f1 t0 t2 kU
        have hwr : IntKind.i64.wrap (x - d.less) = x - d.less := IntWalk.i64_in _ (by omega)
        go_region_law (refine step_append_lies _ (by rfl) _ _ _ (by rfl) (w.heap.size + 1 + 1) 53 i0 _ 3 32 Tryd.underlying35 hi hz0 hz1 hz2 rfl (by omega) u5 _ (tcells (kidsTo id x c.kids n)) (by rfl) ((rU.out.alloc _).drew) ⟨U.heap.size, 0, none⟩ 1 1 [.string (id ++ ⟨#[digit n]⟩), .int .i64 d.kind, .int .i64 (x - d.less)] (by rfl) (by rfl) (World.news_of_block (cs := #[.string (id ++ ⟨#[digit n]⟩), .int .i64 d.kind, .int .i64 (x - d.less)]) (t := 53) (fr := (0, 0)) (heap_alloc_new U _)) (by simp [Value.oneCell']) (by omega) (by unfold maxLen; omega) (by omega) (by simp; omega) (U.heap.size + 1) (by simp) ?_; intro g cp w1 hown1 hgrow hat hlt1)
        all_goals
          go_wp2_with fail
          go_roundw
          case rel =>
            have hrw : ∀ k, u5.ownBlock = some k → w.heap.size + 1 + 1 ≤ k := fun k e => (rU.out.lt k e).1
            refine ⟨n + 1, hlt, by go_num, ?_, by rw [HKT.out]; simp, ?_, ?_⟩
            · rw [HKT.out, tcells_snoc, List.length_append]
              exact hown1
            · exact (bU.alloc bU.size _).drew.grown hgrow (by simp; omega) (fun k e => by have := hrw k e; omega)
            · exact (hgrow.block (w.heap.size + 1) (by simp; omega) (fun e => by have := hrw _ e.symm; omega)).trans (yU.out.alloc _)
          case measure => simp [intOf]; omega
      · have HKT : Hid (kidsTo id x c.kids (n + 1) = kidsTo id x c.kids n) := by
          show kidsTo id x c.kids (n + 1) = _
          simp [kidsTo, hd, hle]
        go_wp2_with fail
        go_quiet (fail)
        go_wp2_with fail
        go_roundw
        case rel => exact ⟨n + 1, by omega, by go_num, by rw [HKT.out]; exact HROW.out, by rw [HKT.out]; exact HNIL.out, below_drewN hb _, HBT.out⟩
        case measure => simp [intOf]; omega
    · obtain rfl : n = c.kids.length := by omega
      go_wp2_with fail
      go_ret
      refine ⟨_, rfl, ?_, by rw [HCH.out]; exact HNIL.out, hb⟩
      rw [HCH.out]
      exact row_kept HROW.out (Kept.refl (fun _ => False) _) (fun _ _ h => h) (by omega)
end Go.Proofs.YtfanaanofjhlkaaDoor
