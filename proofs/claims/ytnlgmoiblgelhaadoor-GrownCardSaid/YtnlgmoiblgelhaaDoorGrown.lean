/-
  gleankeep.Grown answers true, whatever raw numbers it is called with: its walk, out of the contracts of what it calls.
-/
import Derived.Test.YtnlgmoiblgelhaaDoorExample
import Derived.Laws.Cover1
import Derived.Sort.Walk0
import Derived.Deep.CutBlock
namespace Go.Proofs.YtnlgmoiblgelhaaDoor
open Go Go.RowKit

/-- Raw numbers in memory. -/
def RawAt (w : World) (a : Option Addr) (len : Nat) : Prop := ∀ j, j < len → ∃ b o z, a = some ⟨b, o, none⟩ ∧ b < w.heap.size ∧ w.cell? ⟨b, o + j, none⟩ = some (.int .i64 z) ∧ -9223372036854775808 ≤ z ∧ z ≤ 9223372036854775807

theorem program_calls (a : Option Addr) (len cap : Nat) (kind arg : Int) (w : World) (hl2 : len ≤ 9223372036854775806) (hkind : -9223372036854775808 ≤ kind ∧ kind ≤ 9223372036854775807) (harg : -9223372036854775808 ≤ arg ∧ arg ≤ 9223372036854775807) (hraw : RawAt w a len) :
    Calls Tryd.prog 13 #[.slice a len cap, .int .i64 kind, .int .i64 arg] w fun e w' => ∃ va vcap ks k x, e = .returned (.agg #[.slice va ks.length vcap, .int .i64 k, .int .i64 x]) ∧ KindsAt (fun b => w.heap.size ≤ b) w' (.slice va ks.length vcap) ks ∧ progB ks k x = true ∧ Below w.heap.size w w' := by
  have hfin : ∀ (e : Ending) (w' : World), (∃ v k x, e = .returned (.agg #[v, .int .i64 k, .int .i64 x]) ∧ MadeProg w w' v k x ∧ Below w.heap.size w w') → ∃ va vcap ks k x, e = .returned (.agg #[.slice va ks.length vcap, .int .i64 k, .int .i64 x]) ∧ KindsAt (fun b => w.heap.size ≤ b) w' (.slice va ks.length vcap) ks ∧ progB ks k x = true ∧ Below w.heap.size w w' := by
    rintro e w' ⟨v, k, x, rfl, ⟨l, hl, hp⟩, hb⟩
    have hat := hl.at
    have hat' := hat
    obtain ⟨va, vcap, rfl, -⟩ := hat'
    exact ⟨va, vcap, l.map Prod.fst, k, x, rfl, hat, hp, hb⟩
  rcases Nat.lt_or_ge len 2 with h | h
  · exact (program_small a len cap kind arg w h harg).mono hfin
  · obtain ⟨b, o, z, rfl, hb, -⟩ := hraw 0 (by omega)
    refine (program_big b o len cap kind arg w h hl2 hkind harg hb (fun j hj => ?_)).mono hfin
    obtain ⟨b', o', z', e, _, h1, h2⟩ := hraw j hj
    cases e
    exact ⟨z', h1, h2⟩

theorem later_nonempty {L : List TaskS} (hord : L.Pairwise (fun a b => idl a < idl b)) {m : Nat} {u : TaskS} (hm : 0 < m) (hu : L[m]? = some u) : 0 < u.id.size := by
  obtain ⟨hlt, e⟩ := List.getElem?_eq_some_iff.1 hu
  have h := List.pairwise_iff_getElem.1 hord 0 m (by omega) hlt hm
  rw [e] at h
  rcases Nat.eq_zero_or_pos u.id.size with h0 | h0
  · exfalso
    have hn : idl u = [] := List.eq_nil_of_length_eq_zero (by show u.id.data.toList.length = 0; rw [Array.length_toList]; exact h0)
    rw [hn] at h
    exact absurd h (List.not_lt_nil _)
  · exact h0
/-- A place without its last digit, as the program cuts it. -/
theorem cut_last {a b : ByteArray} (h : a.data.toList = b.data.toList.dropLast) : (a.toList == (b.extract 0 (b.size - 1)).toList) = true := by
  rw [beq_iff_eq, ByteArray.toList_eq, ByteArray.toList_eq, h, ByteArray.data_extract, Array.toList_extract, List.dropLast_eq_take]
  simp
theorem kidsOf_take_le (ks : List KindS) (l : List TaskS) (n : Nat) : kidsOf ks (l.take n) ≤ kidsOf ks l := by
  have h := kidsOf_append ks (l.take n) (l.drop n)
  rw [List.take_append_drop] at h
  omega
theorem prev_lt {L : List TaskS} (hord : L.Pairwise (fun a b => idl a < idl b)) {j m : Nat} {u v : TaskS} (hm : j < m) (hv : L[j]? = some v) (hu : L[m]? = some u) : idl v < idl u := by
  obtain ⟨hlt, e⟩ := List.getElem?_eq_some_iff.1 hu
  obtain ⟨hlt', e'⟩ := List.getElem?_eq_some_iff.1 hv
  have h := List.pairwise_iff_getElem.1 hord j m hlt' hlt hm
  rw [e, e'] at h
  exact h

set_option maxHeartbeats 4000000 in
set_option maxRecDepth 100000 in
theorem grown_calls (a : Option Addr) (len cap : Nat) (kind arg : Int) (w : World) (hl2 : len ≤ 9223372036854775806) (hkind : -9223372036854775808 ≤ kind ∧ kind ≤ 9223372036854775807) (harg : -9223372036854775808 ≤ arg ∧ arg ≤ 9223372036854775807) (hraw : RawAt w a len) :
    Calls Tryd.prog 4 #[.slice a len cap, .int .i64 kind, .int .i64 arg] w fun e w' => e = .returned (.bool true) ∧ Below w.heap.size w w' := by
  go_enter Tryd.func4, Tryd.ntmps4
  go_wp2_with fail
  have x1 := (BoxAt.new w 46 #[.int .i64 0, .int .i64 1, .int .i64 0, .int .i64 2]).alloc (Obj.cells #[.int .i64 2, .int .i64 1, .slice (some ⟨w.heap.size, 0, none⟩) 2 2] 49)
  have x2 := BoxAt.new (w.alloc (Obj.cells #[.int .i64 0, .int .i64 1, .int .i64 0, .int .i64 2] 46)) 49 #[.int .i64 2, .int .i64 1, .slice (some ⟨w.heap.size, 0, none⟩) 2 2]
  rw [World.size_alloc] at x2
  refine (unfold_example _ _ _ x1 x2).mono ?_
  rintro e w1 ⟨g, cp, rfl, hg1, hg2, c0, c1, c2, c3, c4, c5, c6, c7, hb1⟩
  clear x1 x2
  have hb1' : Below w.heap.size w w1 := (((Below.refl _ w).alloc (Nat.le_refl _) _).alloc (by simp) _).trans (hb1.mono (by simp; omega))
  go_wp2_with fail
  clear c0 c1 c2 c3 c4 c5 c6 c7 hb1 hg1 hg2
  have hraw1 : RawAt w1 a len := fun j hj => by
    obtain ⟨b, o, z, h1, h2, h3, h4⟩ := hraw j hj
    exact ⟨b, o, z, h1, Nat.lt_of_lt_of_le h2 hb1'.size, (hb1'.cell (p := ⟨b, o + j, none⟩) h2).trans h3, h4⟩
  refine (program_calls a len cap kind arg w1 hl2 hkind harg hraw1).mono ?_
  rintro e w2 ⟨va, vcap, ks, k, x, rfl, hkinds, hprog, hb2⟩
  clear hraw hraw1
  have hlen5 : ks.length ≤ 5 := by simp [progB, rangeB] at hprog; omega
  have hkr : 0 ≤ k ∧ k < ks.length ∧ 0 ≤ x ∧ x ≤ 12 := by simp [progB, rangeB, numB] at hprog; omega
  have hkl : ∀ c ∈ ks, c.kids.length ≤ 9223372036854775806 := fun c hc => by
    simp [progB] at hprog
    have := hprog.1.1.2 c hc
    simp [kindB] at this
    omega
  have hsz1 := hb1'.size
  have hsz2 := hb2.size
  go_wp2_with fail
  obtain ⟨V, hV⟩ : ∃ V, w2.alloc (Obj.cells #[.slice va ks.length vcap, .int .i64 k, .int .i64 x] 24) = V := ⟨_, rfl⟩
  have bV : BoxAt V w2.heap.size 24 #[.slice va ks.length vcap, .int .i64 k, .int .i64 x] := by rw [← hV]; exact BoxAt.new _ _ _
  have hbV : Below w2.heap.size w2 V := by rw [← hV]; exact (Below.refl _ _).alloc (Nat.le_refl _) _
  have sV : V.heap.size = w2.heap.size + 1 := by rw [← hV]; simp
  rw [hV]
  clear hV
  have kV := hkinds.kept (Kept.alloc (fun _ => False) w2 (.cells #[] 0)) (fun _ _ h => h)
  clear kV
  have kV : KindsAt (fun b => w1.heap.size ≤ b ∧ b < w2.heap.size) V (.slice va ks.length vcap) ks := hkinds.below.kept (Kept.of_below (X := fun b => w2.heap.size ≤ b) hbV (fun _ _ h => h)) (fun b h => by omega)
  refine (unfold_at va vcap k x ks V _ kV (by omega) hkl).mono ?_
  rintro e w3 ⟨la, lcap, rfl, hvals, hb3⟩
  have hsz3 := hb3.size
  have b3 := bV.below hb3 bV.lt
  have p0 := b3.cell (o := 0) rfl
  have p1 := b3.cell (o := 1) rfl
  have p2 := b3.cell (o := 2) rfl
  have k3 : KindsAt (fun b => w1.heap.size ≤ b ∧ b < w2.heap.size) w3 (.slice va ks.length vcap) ks := kV.kept (Kept.of_below (X := fun b => V.heap.size ≤ b) hb3 (fun _ _ h => h)) (fun b h => by omega)
  have hcnt : (allTasks ks k x).length = cnt ks 12 k x := tree_length ks 12 _
  have HSz : Hid (Calls Tryd.prog 14 #[.agg #[.slice va ks.length vcap, .int .i64 k, .int .i64 x], .agg #[.string ⟨#[]⟩, .int .i64 k, .int .i64 x], .int .i64 200] w3 fun e w' => e = .returned (.int .i64 ((min (cnt ks 12 k x) 201 : Nat) : Int)) ∧ Below w3.heap.size w3 w') := size_says va vcap hprog 12 k x hkr.1 hkr.2.1 hkr.2.2.1 hkr.2.2.2 hkr.2.2.2 _ ⟨#[]⟩ 200 w3 (by omega) k3
  have hbw3 : Below w.heap.size w w3 := ((hb1'.trans (hb2.mono hsz1)).trans (hbV.mono (by omega))).trans (hb3.mono (by omega))
  by_cases hsmall : (allTasks ks k x).length ≤ 200
  case neg =>
    have hu : unfoldS ks k x = (4, []) := by simp [unfoldS, hprog, hsmall]
    rw [hu]
    have hm : min (cnt ks 12 k x) 201 = 201 := by omega
    rw [hm] at HSz
    clear hm hcnt hvals hu
    go_wp2_with fail
    refine HSz.out.mono ?_
    rintro e w4 ⟨rfl, hb4⟩
    go_wp2_with fail
    go_ret
    exact ⟨rfl, hbw3.trans (hb4.mono (by omega))⟩
  have hu : unfoldS ks k x = (0, allTasks ks k x) := by simp [unfoldS, hprog, hsmall]
  rw [hu] at hvals ⊢
  have hm : min (cnt ks 12 k x) 201 = (allTasks ks k x).length := by omega
  rw [hm] at HSz
  clear hm hcnt hu
  go_wp2_with fail
  refine HSz.out.mono ?_
  rintro e w4 ⟨rfl, hb4⟩
  have hroot : (allTasks ks k x)[0]? = some ⟨⟨#[]⟩, k, x⟩ := rfl
  have hGr : Good ks ⟨⟨#[]⟩, k, x⟩ := ⟨hkr.1, hkr.2.1, hkr.2.2.1, by simp [ByteArray.size]; omega⟩
  have hgood : ∀ u ∈ allTasks ks k x, Good ks u ∧ locate ks k x u.id.data.toList = some (u.kind, u.arg) := fun u hu => by
    refine ⟨tree_good hprog 12 _ hGr u hu, ?_⟩
    obtain ⟨r, h1, h2⟩ := tree_locate hprog 12 _ u hu
    have e : idl u = r := by simpa [idl] using h1
    rw [← e] at h2; exact h2
  have hord := all_order hprog
  have hpar := fun i u => all_parent hprog i u
  have htot : 1 + kidsOf ks (allTasks ks k x) = (allTasks ks k x).length := tree_total hprog 12 _ hGr (by dsimp only; omega)
  obtain ⟨L, hL⟩ : ∃ L, allTasks ks k x = L := ⟨_, rfl⟩
  rw [hL] at hroot hgood hord hpar htot hsmall hvals ⊢
  clear hL HSz hGr
  have hL1 : 1 ≤ L.length := by have := (List.getElem?_eq_some_iff.1 hroot).1; omega
  obtain ⟨gl, rfl, hgl1, hgl2, -, -⟩ := hvals 0 _ hroot
  have hsz4 := hb4.size
  have v4 : ValsAt (fun b => V.heap.size ≤ b ∧ b < w4.heap.size) w4 (some ⟨gl, 0, none⟩) ks L := by
    intro j t hj
    obtain ⟨g', h1, h2, h3, h4, h5⟩ := hvals j t hj
    exact ⟨g', h1, ⟨h2, by omega⟩, by omega, (hb4.cell (p := ⟨g', _, none⟩) h3).trans h4, (hb4.cell (p := ⟨g', _, none⟩) h3).trans h5⟩
  have b4 := b3.below hb4 b3.lt
  have k4 : KindsAt (fun b => w1.heap.size ≤ b ∧ b < w2.heap.size) w4 (.slice va ks.length vcap) ks := k3.kept (Kept.of_below (X := fun b => w3.heap.size ≤ b) hb4 (fun _ _ h => h)) (fun b h => by omega)
  have hbw4 : Below w.heap.size w w4 := hbw3.trans (hb4.mono (by omega))
  obtain ⟨_, e0, _, _, y0, _⟩ := v4 0 _ hroot
  cases e0
  have hn0 : ((L.length : Int) == 0) = false := by rw [beq_eq_false_iff_ne]; omega
  clear p0 p1 p2 hvals
  go_wp2_with fail
  go_loopw [13, 14] (fun tt ii wr => ∃ (m : Nat) (T : Int), m ≤ L.length ∧ ii = .int .i64 m ∧ tt = .int .i64 T ∧ T = ((1 + kidsOf ks (L.take m) : Nat) : Int) ∧ Below w4.heap.size w4 wr) (fun _ ii _ => L.length - (intOf ii).toNat)
  case atStart => exact ⟨0, _, Nat.zero_le _, rfl, rfl, rfl, Below.refl _ _⟩
  case round =>
    obtain ⟨m, T, hm, rfl, rfl, hT, hbr⟩ := hrel
    have HT : Hid (T = ((1 + kidsOf ks (L.take m) : Nat) : Int)) := hT
    rename World => Wo
    by_cases hlt : m < L.length
    · clear hT
      obtain ⟨u, hu⟩ : ∃ u, L[m]? = some u := ⟨_, List.getElem?_eq_getElem hlt⟩
      obtain ⟨hGu, hloc⟩ := hgood u (List.mem_of_getElem? hu)
      have hszr := hbr.size
      have bp := b4.below hbr b4.lt
      have l2 := b4.lt
      have p0 := bp.cell (o := 0) rfl
      have p1 := bp.cell (o := 1) rfl
      have p2 := bp.cell (o := 2) rfl
      obtain ⟨_, e0, _, hgl3, ym, yv⟩ := v4 m u hu
      cases e0
      have zm := (hbr.cell (p := ⟨gl, m * 2, none⟩) hgl3).trans ym
      have zv := (hbr.cell (p := ⟨gl, m * 2 + 1, none⟩) hgl3).trans yv
      have kW : KindsAt (fun b => w1.heap.size ≤ b ∧ b < w2.heap.size) Wo (.slice va ks.length vcap) ks := k4.kept (Kept.of_below (X := fun b => w4.heap.size ≤ b) hbr (fun _ _ h => h)) (fun b h => by omega)
      have hus : u.id.size ≤ 12 := by have := hGu.2.2.2; have := hGu.2.2.1; omega
      have HA : Hid (∀ U, Below Wo.heap.size Wo U →
          Calls Tryd.prog 15 #[.agg #[.slice va ks.length vcap, .int .i64 k, .int .i64 x], .string u.id] U fun e U' => e = .returned (.tuple #[.agg #[.string u.id, .int .i64 u.kind, .int .i64 u.arg], .bool true]) ∧
            (U'.cell? ⟨w2.heap.size, 0, none⟩ = some (.slice va ks.length vcap) ∧ U'.cell? ⟨w2.heap.size, 1, none⟩ = some (.int .i64 k) ∧ U'.cell? ⟨w2.heap.size, 2, none⟩ = some (.int .i64 x) ∧ U'.cell? ⟨gl, m * 2, none⟩ = some (.string u.id)) ∧ Below U.heap.size U U' ∧ (∀ o, Below Wo.heap.size Wo (U'.alloc o)) ∧ (∀ o, Wo.heap.size < U.heap.size → U'.cell? ⟨Wo.heap.size, o, none⟩ = U.cell? ⟨Wo.heap.size, o, none⟩) ∧ (∀ o, Wo.heap.size < U.heap.size → U'.frozen? ⟨Wo.heap.size, o, none⟩ = U.frozen? ⟨Wo.heap.size, o, none⟩) ∧ Below Wo.heap.size Wo U') := fun U hU => by
        refine (at_calls _ va vcap k x ks u.id u.kind u.arg U (kW.kept (Kept.of_below (X := fun b => Wo.heap.size ≤ b) hU (fun _ _ h => h)) (fun b h => by omega)) hprog hus hloc).mono ?_
        rintro e U' ⟨rfl, hb⟩
        have hbb := hU.trans (hb.mono hU.size)
        exact ⟨rfl, ⟨(hbb.cell (p := ⟨w2.heap.size, 0, none⟩) (by simp; omega)).trans p0, (hbb.cell (p := ⟨w2.heap.size, 1, none⟩) (by simp; omega)).trans p1, (hbb.cell (p := ⟨w2.heap.size, 2, none⟩) (by simp; omega)).trans p2, (hbb.cell (p := ⟨gl, m * 2, none⟩) (by simp; omega)).trans zm⟩, hb, fun o => hbb.alloc hbb.size o, fun o hlt => hb.cell (p := ⟨Wo.heap.size, o, none⟩) hlt, fun o hlt => hb.frozen (p := ⟨Wo.heap.size, o, none⟩) hlt, hbb⟩
      have hal0 : ∀ o, Below Wo.heap.size Wo (Wo.alloc o).drew := fun o => ((Below.refl _ _).alloc (Nat.le_refl _) _).drew
      have i1 : (0 : Int) ≤ (m : Int) := by omega
      have i2 : (m : Int) < (L.length : Int) := by omega
      have ne1 : w2.heap.size ≠ Wo.heap.size := by omega
      have ne2 : gl ≠ Wo.heap.size := by omega
      have ne3 : Wo.heap.size ≠ w2.heap.size := by omega
      have ne4 : Wo.heap.size ≠ gl := by omega
      have nb1 : (w2.heap.size == Wo.heap.size) = false := by rw [beq_eq_false_iff_ne]; exact ne1
      have nb2 : (gl == Wo.heap.size) = false := by rw [beq_eq_false_iff_ne]; exact ne2
      go_upto_region 15 with fail
      go_cut [15, 16] (fun tp okv wx => okv = .bool true ∧ ∃ Bt, tp = .pointer (some ⟨Bt, 0, none⟩) ∧ BoxAt wx Bt 53 #[.string u.id, .int .i64 u.kind, .int .i64 u.arg] ∧ Below Wo.heap.size Wo wx ∧ Wo.heap.size ≤ Bt)
      case first =>
        go_region_held3 (fun U => U.cell? ⟨w2.heap.size, 0, none⟩ = some (.slice va ks.length vcap) ∧ U.cell? ⟨w2.heap.size, 1, none⟩ = some (.int .i64 k) ∧ U.cell? ⟨w2.heap.size, 2, none⟩ = some (.int .i64 x) ∧ U.cell? ⟨gl, m * 2, none⟩ = some (.string u.id)) (go_keep)
          (first | (go_at_call 15; refine (HA.out _ (by first | exact (Below.refl _ _).drew | exact hal0 _)).mono ?_; rintro e w' ⟨rfl, hS, hbU, hal, hce, hfr, hbW⟩))
        all_goals
          go_wp2_with fail
          go_meet
          case rel =>
            first
            | exact ⟨rfl, Wo.heap.size, rfl, (((BoxAt.below (W := (Wo.alloc (Obj.cells #[.string ⟨#[]⟩, .int .i64 0, .int .i64 0] 53)).drew) (BoxAt.new Wo 53 #[.string ⟨#[]⟩, .int .i64 0, .int .i64 0]) hbU (by show Wo.heap.size < (Wo.alloc _).heap.size; simp)).setAt 0 _).setAt 1 _).setAt 2 _, ((hbW.setCell (p := ⟨Wo.heap.size, 0, none⟩) (Nat.le_refl _) _).setCell (p := ⟨Wo.heap.size, 1, none⟩) (Nat.le_refl _) _).setCell (p := ⟨Wo.heap.size, 2, none⟩) (Nat.le_refl _) _, Nat.le_refl _⟩
            | exact ⟨rfl, _, rfl, BoxAt.new _ _ _, hal _, hbW.size⟩
      case rest =>
        obtain ⟨rfl, Bt, rfl, hBt, hbc, hBt2⟩ := hcut
        obtain ⟨X, rfl⟩ : ∃ X, X = wc := ⟨_, rfl⟩
        clear HA hal0 p0 p1 p2 zm zv kW bp
        have hbx : Below w4.heap.size w4 X := hbr.trans (hbc.mono hszr)
        have hszc := hbx.size
        have zm := (hbx.cell (p := ⟨gl, m * 2, none⟩) hgl3).trans ym
        have HB : Hid (0 < m → 0 < u.id.size) := fun h0 => later_nonempty hord h0 hu
        go_upto_region 16 with fail
        go_cut [16, 133] (fun okv cv wx => okv = .bool true ∧ cv = .bool false ∧ X = wx)
        case first =>
          by_cases hm0 : m = 0
          · subst hm0
            go_wp2_with fail
            go_meet
            case rel => exact ⟨rfl, rfl, rfl⟩
          · have hd0 : decide ((0 : Int) < (m : Int)) = true := by simp; omega
            have hid : u.id.toList.isEmpty = false := by
              have h1 := HB.out (by omega)
              rw [ByteArray.toList_eq, List.isEmpty_eq_false_iff]
              intro h2
              have h3 := congrArg List.length h2
              rw [Array.length_toList] at h3
              exact absurd h3 (Nat.ne_of_gt h1)
            go_wp2_with fail
            go_meet
            case rel => exact ⟨rfl, rfl, rfl⟩
        case rest =>
        obtain ⟨rfl, rfl, rfl⟩ := hcut
        go_upto_block 2 with fail
        go_cut [17, 18] (fun ab kk wx => ab = .bool true ∧ Below X.heap.size X wx)
        case first =>
          go_wp2_with fail
          go_loopw [17, 18] (fun ab kk wr => ∃ (q : Nat) (A : Bool), q ≤ m ∧ kk = .int .i64 q ∧ ab = .bool A ∧ (A = false → 0 < m ∧ ∀ j v, j < q → L[j]? = some v → ¬ idl v = (idl u).dropLast) ∧ Below X.heap.size X wr) (fun _ kk _ => m - (intOf kk).toNat)
          case atStart => exact ⟨0, _, Nat.zero_le _, rfl, rfl, fun h => ⟨by simp at h; omega, fun j v hj => absurd hj (Nat.not_lt_zero _)⟩, Below.refl _ _⟩
          case round =>
          obtain ⟨q, A, hq, rfl, rfl, hA, hbz⟩ := hrel
          rename World => Z
          have HA : Hid (A = false → 0 < m ∧ ∀ j v, j < q → L[j]? = some v → ¬ idl v = (idl u).dropLast) := hA
          clear hA
          have hbz4 : Below w4.heap.size w4 Z := hbx.trans (hbz.mono hszc)
          have hszz := hbz.size
          cases A
          case false =>
            obtain ⟨hm0, hno⟩ := HA.out rfl
            have hqm : q < m := by
              rcases Nat.lt_or_ge q m with h | h
              · exact h
              · exfalso
                obtain ⟨j, v, hj, hv, he⟩ := hpar m u hm0 hu
                exact hno j v (by omega) hv he
            have HNO : Hid (∀ j v, j < q → L[j]? = some v → ¬ idl v = (idl u).dropLast) := hno
            obtain ⟨v, hv⟩ : ∃ v, L[q]? = some v := ⟨_, List.getElem?_eq_getElem (by omega)⟩
            obtain ⟨_, e0, _, _, yq, _⟩ := v4 q v hv
            cases e0
            have zq := (hbz4.cell (p := ⟨gl, q * 2, none⟩) hgl3).trans yq
            have zm' := (hbz4.cell (p := ⟨gl, m * 2, none⟩) hgl3).trans ym
            have hsu := HB.out hm0
            have j1 : (0 : Int) ≤ (q : Int) := by omega
            have j2 : (q : Int) < (L.length : Int) := by omega
            have j3 : decide ((q : Int) < (m : Int)) = true := by simp; omega
            clear zm hno HA
            go_wp2_with fail
            go_quiet (fail)
            go_wp2_with fail
            go_roundw
            case rel =>
              refine ⟨q + 1, _, hqm, by go_num, rfl, fun hf => ⟨hm0, fun j v' hj hv' he => ?_⟩, below_drewN hbz _⟩
              rcases Nat.lt_or_ge j q with h | h
              · exact HNO.out j v' h hv' he
              · obtain rfl : j = q := by omega
                rw [hv] at hv'
                cases hv'
                rw [cut_last he] at hf
                cases hf
            case measure => simp [intOf]; omega
          case true =>
            go_wp2_with fail
            all_goals go_meet
            all_goals first
              | exact ⟨rfl, hbz⟩
        case rest =>
        obtain ⟨rfl, hbz⟩ := hcut
        obtain ⟨Z, rfl⟩ : ∃ Z, Z = wc := ⟨_, rfl⟩
        have hbz4 : Below w4.heap.size w4 Z := hbx.trans (hbz.mono hszc)
        have hszz := hbz.size
        have bp := b4.below hbz4 b4.lt
        have p0 := bp.cell (o := 0) rfl
        have p1 := bp.cell (o := 1) rfl
        have p2 := bp.cell (o := 2) rfl
        have hBz := hBt.below hbz hBt.lt
        have q0 := hBz.cell (o := 0) rfl
        have q1 := hBz.cell (o := 1) rfl
        have q2 := hBz.cell (o := 2) rfl
        clear zm
        have zm := (hbz4.cell (p := ⟨gl, m * 2, none⟩) hgl3).trans ym
        have zv := (hbz4.cell (p := ⟨gl, m * 2 + 1, none⟩) hgl3).trans yv
        have kZ : KindsAt (fun b => w1.heap.size ≤ b ∧ b < w2.heap.size) Z (.slice va ks.length vcap) ks := k4.kept (Kept.of_below (X := fun b => w4.heap.size ≤ b) hbz4 (fun _ _ h => h)) (fun b h => by omega)
        obtain ⟨j, c, hjk, hcc, hkc, -, -, hcA, hcB⟩ := kind_facts hprog hGu.1 hGu.2.1
        obtain ⟨_, _, e0, hcs⟩ := kZ
        simp only [Value.slice.injEq] at e0
        obtain ⟨rfl, -, rfl⟩ := e0
        obtain ⟨b, o, kv, rfl, -, hbw, c0, c1, -, -⟩ := hcs j c hcc
        obtain rfl : j = u.kind.toNat := by omega
        have hVu : valueOf ks u = c.A * u.arg + c.B := by rw [valueOf, hkc]
        rw [hVu] at zv
        have hk0 := hGu.1
        have hk1 := hGu.2.1
        have ha0 := hGu.2.2.1
        have ha1 : u.arg ≤ 12 := by have := hGu.2.2.2; omega
        have hm1 : -12000 ≤ c.A * u.arg := by
          have := Int.mul_le_mul_of_nonneg_right hcA.1 ha0; omega
        have hm2 : c.A * u.arg ≤ 12000 := by
          have := Int.mul_le_mul_of_nonneg_right hcA.2 ha0; omega
        have HJK : Hid (u.kind = (u.kind.toNat : Int)) := hjk
        clear hjk hkc hcs hVu
        go_upto_region 23 with fail
        go_cut [16, 213] (fun okv cv wx => okv = .bool true ∧ cv = .bool false ∧ Below Z.heap.size Z wx)
        case first =>
          by_cases hm0 : m = 0
          · subst hm0
            go_quiet (fail)
            go_wp2_with fail
            go_meet
            case rel => exact ⟨rfl, rfl, below_drewN (Below.refl _ _) _⟩
          · have hd0 : decide ((0 : Int) < (m : Int)) = true := by simp; omega
            have hd1 : decide (0 < m) = true := by simp; omega
            have hd2 : 0 < m := by omega
            obtain ⟨n, hn⟩ : ∃ n, m = n + 1 := ⟨m - 1, by omega⟩
            have hmi : (m : Int) - 1 = (n : Int) := by omega
            have n1 : (0 : Int) ≤ (n : Int) := by omega
            have n2 : (n : Int) < (L.length : Int) := by omega
            obtain ⟨v, hv⟩ : ∃ v, L[n]? = some v := ⟨_, List.getElem?_eq_getElem (by omega)⟩
            obtain ⟨_, e0, _, _, yq, _⟩ := v4 n v hv
            cases e0
            have zq := (hbz4.cell (p := ⟨gl, n * 2, none⟩) hgl3).trans yq
            have hle := prev_lt hord (by omega) hv hu
            have hbl : Op.bytesLess v.id.toList u.id.toList = true := by
              rw [bytesLess_eq, ByteArray.toList_eq, ByteArray.toList_eq]
              exact decide_eq_true hle
            clear hn hle
            go_quiet (fail)
            go_wp2_with fail
            go_meet
            case rel => exact ⟨rfl, rfl, below_drewN (Below.refl _ _) _⟩
        case rest =>
        obtain ⟨rfl, rfl, hby⟩ := hcut
        obtain ⟨Y, rfl⟩ : ∃ Y, Y = wc := ⟨_, rfl⟩
        clear p0 p1 p2 q0 q1 q2 zm zv c0 c1
        have hby4 : Below w4.heap.size w4 Y := hbz4.trans (hby.mono (by omega))
        have bp' := b4.below hby4 b4.lt
        have p0 := bp'.cell (o := 0) rfl
        have p1 := bp'.cell (o := 1) rfl
        have p2 := bp'.cell (o := 2) rfl
        have hBy := hBz.below hby hBz.lt
        have q0 := hBy.cell (o := 0) rfl
        have q1 := hBy.cell (o := 1) rfl
        have q2 := hBy.cell (o := 2) rfl
        have kY := k4.kept (Kept.of_below (X := fun b => w4.heap.size ≤ b) hby4 (fun _ _ h => h)) (fun b h => by omega)
        have HK := kids_calls _ _ _ k x ks u Y kY hprog hGu
        have hcl := kidsOf_take ks L m u hu
        have htl := kidsOf_take_le ks L (m + 1)
        obtain ⟨cl, hcl'⟩ : ∃ cl, (children ks u).length = cl := ⟨_, rfl⟩
        rw [hcl'] at HK hcl
        have hT := HT.out
        have t1 : 0 ≤ T := by omega
        have t2 : T + (cl : Int) ≤ 200 := by omega
        have HT' : Hid (T + (cl : Int) = ((1 + kidsOf ks (L.take (m + 1)) : Nat) : Int)) := by show _ = _; omega
        have HK' : Hid (Calls Tryd.prog 16 #[.agg #[.slice (some ⟨b, o, none⟩) ks.length vcap, .int .i64 k, .int .i64 x], .agg #[.string u.id, .int .i64 u.kind, .int .i64 u.arg]] Y fun e w' => e = .returned (.int .i64 cl) ∧ Below Y.heap.size Y w') := HK
        clear hT hcl htl hcl' HK kY HT
        go_wp2_with fail
        refine HK'.out.mono ?_
        rintro e w' ⟨rfl, hbk⟩
        go_wp2_with fail
        go_roundw
        case rel =>
          exact ⟨m + 1, T + (cl : Int), hlt, by go_num, rfl, HT'.out, hby4.trans (hbk.mono hby4.size)⟩
        case measure => simp [intOf]; omega
    · obtain rfl : m = L.length := by omega
      obtain rfl : T = (L.length : Int) := by rw [hT, List.take_length, htot]
      clear hT HT
      go_wp2_with fail
      go_ret
      exact ⟨rfl, hbw4.trans (hbr.mono hbw4.size)⟩
end Go.Proofs.YtnlgmoiblgelhaaDoor
