/-
  gleankeep.at finds each task of a program's tree at its ID.
-/
import Derived.Test.YtfanaanofjhlkaaDoorPickN
import Derived.Test.YtfanaanofjhlkaaDoorVals
namespace Go.Proofs.YtfanaanofjhlkaaDoor
open Go Go.RowKit

/-- The kind and the argument that stand at a path below a task. -/
def locate (ks : List KindS) : Int → Int → List UInt8 → Option (Int × Int)
  | k, x, [] => some (k, x)
  | k, x, c :: r => match (kindAt ks k).kids[c.toNat - 48]? with
    | some d => if 48 ≤ c.toNat ∧ d.less ≤ x then locate ks d.kind (x - d.less) r else none
    | none => none

theorem digit_toNat {i : Nat} (h : i < 100) : (digit i).toNat = 48 + i := by
  unfold digit; simp only [UInt8.toNat_ofNat']; omega

theorem childrenFrom_locate {id : ByteArray} {x : Int} {c : TaskS} : ∀ {l : List KidS} {i : Nat}, c ∈ childrenFrom id x i l → ∃ m d, l[m]? = some d ∧ c = ⟨kidId id (i + m), d.kind, x - d.less⟩ ∧ d.less ≤ x
  | [], _, h => by simp [childrenFrom] at h
  | d :: r, i, h => by
    unfold childrenFrom at h
    split at h
    · rename_i hd
      rcases List.mem_cons.1 h with rfl | h
      · exact ⟨0, d, rfl, rfl, hd⟩
      · obtain ⟨m, e, he, hc, hx⟩ := childrenFrom_locate h; exact ⟨m + 1, e, he, by rw [hc]; congr 2; omega, hx⟩
    · obtain ⟨m, e, he, hc, hx⟩ := childrenFrom_locate h; exact ⟨m + 1, e, he, by rw [hc]; congr 2; omega, hx⟩

theorem tree_locate {ks : List KindS} {kind arg : Int} (hp : progB ks kind arg = true) : ∀ (f : Nat) (t u : TaskS), u ∈ tree ks f t → ∃ r, idl u = idl t ++ r ∧ locate ks t.kind t.arg r = some (u.kind, u.arg)
  | 0, t, u, hu => by simp [tree] at hu; subst hu; exact ⟨[], by simp, rfl⟩
  | f + 1, t, u, hu => by
    rcases List.mem_cons.1 hu with rfl | hu
    · exact ⟨[], by simp, rfl⟩
    · obtain ⟨c, hc, hu⟩ := List.mem_flatMap.1 hu
      obtain ⟨r, hr, hl⟩ := tree_locate hp f c u hu
      obtain ⟨m, d, hd, rfl, hx⟩ := childrenFrom_locate hc
      have hm : m < 100 := by have := (List.getElem?_eq_some_iff.1 hd).1; have := kids_le ks kind arg hp t.kind; omega
      refine ⟨digit m :: r, ?_, ?_⟩
      · rw [hr, Nat.zero_add, idl_kid]; simp [idl]
      · unfold locate
        rw [digit_toNat hm, show 48 + m - 48 = m from by omega, hd]
        simp only
        rw [if_pos ⟨by omega, hx⟩]
        exact hl

set_option maxHeartbeats 2000000 in
theorem at_calls (ok : Nat → Prop) (a : Option Addr) (cap : Nat) (kind arg : Int) (ks : List KindS) (id : ByteArray) (uk ux : Int) (w : World) (hk : KindsAt ok w (.slice a ks.length cap) ks) (hprog : progB ks kind arg = true)
    (hid : id.size ≤ 12) (hl : locate ks kind arg id.data.toList = some (uk, ux)) :
    Calls Tryd.prog 15 #[.agg #[.slice a ks.length cap, .int .i64 kind, .int .i64 arg], .string id] w fun e w' => e = .returned (.tuple #[.agg #[.string id, .int .i64 uk, .int .i64 ux], .bool true]) ∧ Below w.heap.size w w' := by
  have hlen5 : ks.length ≤ 5 := by simp [progB, rangeB] at hprog; omega
  have hr : 0 ≤ kind ∧ kind < ks.length ∧ 0 ≤ arg ∧ arg ≤ 12 := by simp [progB, rangeB, numB] at hprog; omega
  obtain ⟨r0, r1, r2, r3⟩ := hr
  obtain ⟨a', cap', hs, hc⟩ := hk
  simp only [Value.slice.injEq] at hs
  obtain ⟨rfl, -, rfl⟩ := hs
  go_enter Tryd.func15, Tryd.ntmps15
  go_wp2_with fail
  go_loopw [7] (fun i wr => ∃ (m : Nat) (k x : Int), m ≤ id.size ∧ i = .int .i64 m ∧ 0 ≤ k ∧ k < ks.length ∧ 0 ≤ x ∧ x ≤ 12 ∧ locate ks k x (id.data.toList.drop m) = some (uk, ux) ∧ Below w.heap.size w wr ∧ BoxAt wr w.heap.size 24 #[.slice a ks.length cap, .int .i64 kind, .int .i64 arg] ∧ BoxAt wr (w.heap.size + 1) 53 #[.string ⟨#[]⟩, .int .i64 0, .int .i64 0] ∧ BoxAt wr (w.heap.size + 1 + 1) 53 #[.string id, .int .i64 k, .int .i64 x]) (fun i _ => id.size - (intOf i).toNat)
  case atStart =>
    refine ⟨0, kind, arg, Nat.zero_le _, rfl, r0, r1, r2, r3, hl, (((Below.refl _ _).alloc (Nat.le_refl _) _).alloc (by simp) _).alloc (by simp; omega) _, ((BoxAt.new w _ _).alloc _).alloc _, ?_, ?_⟩
    · have := (BoxAt.new (w.alloc (Obj.cells #[Value.slice a ks.length cap, Value.int IntKind.i64 kind, Value.int IntKind.i64 arg] 24)) 53 #[.string ⟨#[]⟩, .int .i64 0, .int .i64 0]).alloc (Obj.cells #[.string id, .int .i64 kind, .int .i64 arg] 53)
      simpa only [World.size_alloc] using this
    · have := BoxAt.new ((w.alloc (Obj.cells #[Value.slice a ks.length cap, Value.int IntKind.i64 kind, Value.int IntKind.i64 arg] 24)).alloc (Obj.cells #[.string ⟨#[]⟩, .int .i64 0, .int .i64 0] 53)) 53 #[.string id, .int .i64 kind, .int .i64 arg]
      simpa only [World.size_alloc] using this
  case round =>
    obtain ⟨m, k, x, hm, rfl, h0, h1, h2, h3, hloc, hb, hbp, hbr, hbt⟩ := hrel
    have HBP : Hid (BoxAt wr w.heap.size 24 #[.slice a ks.length cap, .int .i64 kind, .int .i64 arg]) := hbp
    have HBR : Hid (BoxAt wr (w.heap.size + 1) 53 #[.string ⟨#[]⟩, .int .i64 0, .int .i64 0]) := hbr
    have HBT : Hid (BoxAt wr (w.heap.size + 1 + 1) 53 #[.string id, .int .i64 k, .int .i64 x]) := hbt
    have p0 := hbp.cell (o := 0) rfl
    have q0 := hbr.cell (o := 0) rfl
    have q1 := hbr.cell (o := 1) rfl
    have q2 := hbr.cell (o := 2) rfl
    have z0 := hbr.frozen 0
    have z1 := hbr.frozen 1
    have z2 := hbr.frozen 2
    have t0 := hbt.cell (o := 0) rfl
    have t1 := hbt.cell (o := 1) rfl
    have t2 := hbt.cell (o := 2) rfl
    have y1 := hbt.frozen 1
    have y2 := hbt.frozen 2
    clear hbp hbr hbt
    obtain ⟨j, c, rfl, hcc, hkc, hkl, hkids, -, -⟩ := kind_facts hprog h0 h1
    by_cases hlt : m < id.size
    · obtain ⟨b, o, v, rfl, hok, hbw, c0, c1, c2, a', cap', rfl, h'⟩ := hc j c hcc
      have hdr : id.data.toList.drop m = id[m] :: id.data.toList.drop (m + 1) := by
        rw [List.drop_eq_getElem_cons (by simpa using hlt)]; rfl
      rw [hdr] at hloc
      unfold locate at hloc
      rw [hkc] at hloc
      cases hd : c.kids[id[m].toNat - 48]? with
      | none => rw [hd] at hloc; cases hloc
      | some d =>
        rw [hd] at hloc
        simp only at hloc
        split at hloc
        case isFalse => cases hloc
        rename_i hcond
        obtain ⟨h48, hless⟩ := hcond
        obtain ⟨b', o', rfl, hok', hbw', d0, d1⟩ := h' _ d hd
        have hq := (List.getElem?_eq_some_iff.1 hd).1
        obtain ⟨hl1, hl9, hk0, hk1⟩ := hkids d (List.mem_of_getElem? hd)
        have f2 := (hb.cell (p := ⟨b, o + j * 3 + 2, none⟩) hbw).trans c2
        have f0 := (hb.cell (p := ⟨b', o' + (id[m].toNat - 48) * 2, none⟩) hbw').trans d0
        have f1 := (hb.cell (p := ⟨b', o' + (id[m].toNat - 48) * 2 + 1, none⟩) hbw').trans d1
        have HLOC : Hid (locate ks d.kind (x - d.less) (id.data.toList.drop (m + 1)) = some (uk, ux)) := hloc
        clear hloc hd hdr d0 d1 c0 c1 c2 hc h'
        go_wp2_with fail
        obtain ⟨q, hqe⟩ : ∃ q : Nat, id[m].toNat - 48 = q := ⟨_, rfl⟩
        rw [show ((id[m].toNat : Int) - 48) = (q : Int) from by omega]
        rw [hqe] at f0 f1 hq
        clear hqe
        have e1 : decide ((q : Int) < 0) = false := by simp
        have e2 : decide ((c.kids.length : Int) ≤ q) = false := by simp; omega
        have e3 : decide (x < d.less) = false := by simpa using hless
        go_quiet (fail)
        go_wp2_with fail
        have hbw0 := hb.size
        have f1' : ∀ v, ((wr.drewN nq).setCell ⟨w.heap.size + 1 + 1, 1, none⟩ v).cell? ⟨b', o' + q * 2 + 1, none⟩ = some (.int .i64 d.less) := fun v => cell_far (w := wr.drewN nq) f1 _ v (by simp; omega)
        go_region
        go_wp2_with fail
        go_roundw
        case rel =>
          refine ⟨m + 1, d.kind, x - d.less, by omega, by go_num, hk0, hk1, by omega, by omega, HLOC.out, ?_, ?_, ?_, ?_⟩
          · exact (((below_drewN hb _).setCell (p := ⟨w.heap.size + 1 + 1, 1, none⟩) (by simp; omega) _).setCell (p := ⟨w.heap.size + 1 + 1, 2, none⟩) (by simp; omega) _).drew
          · exact ((HBP.out.drewN nq).far _ _ (by simp; omega)).far _ _ (by simp; omega)
          · exact ((HBR.out.drewN nq).far _ _ (by simp)).far _ _ (by simp)
          · exact ((HBT.out.drewN nq).setAt 1 _).setAt 2 _
        case measure => simp [intOf]; omega
    · obtain rfl : m = id.size := by omega
      rw [List.drop_eq_nil_of_le (by simp)] at hloc
      simp only [locate, Option.some.injEq, Prod.mk.injEq] at hloc
      obtain ⟨rfl, rfl⟩ := hloc
      go_wp2_with fail
      have hT : BoxAt (((wr.setCell ⟨w.heap.size + 1, 0, none⟩ (.string id)).setCell ⟨w.heap.size + 1, 1, none⟩ (.int .i64 j)).setCell ⟨w.heap.size + 1, 2, none⟩ (.int .i64 x)) (w.heap.size + 1) 53 #[.string id, .int .i64 j, .int .i64 x] :=
        ((HBR.out.setAt 0 _).setAt 1 _).setAt 2 _
      have w0 := hT.cell (o := 0) rfl
      have w1 := hT.cell (o := 1) rfl
      have w2 := hT.cell (o := 2) rfl
      refine bodyPost_ret (v := .tuple #[.agg #[.string id, .int .i64 j, .int .i64 x], .bool true]) (by simp [results, Tryd.results15, go_sem, w0, w1, w2]) rfl ⟨rfl, ?_⟩
      exact ((hb.setCell (p := ⟨w.heap.size + 1, 0, none⟩) (by simp) _).setCell (p := ⟨w.heap.size + 1, 1, none⟩) (by simp) _).setCell (p := ⟨w.heap.size + 1, 2, none⟩) (by simp) _
end Go.Proofs.YtfanaanofjhlkaaDoor
