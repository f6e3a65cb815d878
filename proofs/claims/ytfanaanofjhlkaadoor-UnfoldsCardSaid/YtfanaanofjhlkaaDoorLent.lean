/-
  gleanlaw.lent makes a copy of a program in new memory, with more behind its lists: for whatever program lies in memory.
-/
import Derived.Test.YtfanaanofjhlkaaDoorCopyK
namespace Go.Proofs.YtfanaanofjhlkaaDoor
open Go Go.RowKit

/-- A list of kids that was lent, in a block of its own, with eight more behind it. -/
def KidsLent (W : World) (B : Nat) (l : List KidS) : Prop :=
  ∃ cs, BoxAt W B 46 cs ∧ cs.size = (l.length + 8) * 2 ∧ (∀ j d, l[j]? = some d → cs[j * 2]? = some (.int .i64 d.kind) ∧ cs[j * 2 + 1]? = some (.int .i64 d.less)) ∧
    ∀ j, l.length ≤ j → j < l.length + 8 → cs[j * 2]? = some (.int .i64 0) ∧ cs[j * 2 + 1]? = some (.int .i64 (-77))
theorem KidsLent.kept {X : Nat → Prop} {W W' : World} {B : Nat} {l : List KidS} (h : KidsLent W B l) (k : Kept X W W') (hx : ¬ X B) : KidsLent W' B l := by
  obtain ⟨cs, h1, h2⟩ := h
  exact ⟨cs, h1.kept k hx, h2⟩
/-- The kinds that were lent so far. -/
def KindsLentTo (W : World) (BL : Nat) (K : Nat → Nat) (ks : List KindS) (m : Nat) (cs : Array Value) : Prop :=
  (∀ j c, j < m → ks[j]? = some c → (cs[j * 3]? = some (.int .i64 c.A) ∧ cs[j * 3 + 1]? = some (.int .i64 c.B) ∧ cs[j * 3 + 2]? = some (.slice (some ⟨K j, 0, none⟩) c.kids.length (c.kids.length + 8))) ∧ KidsLent W (K j) c.kids ∧ BL < K j ∧ K j < W.heap.size) ∧
  ∀ j j', j < j' → j' < m → j' < ks.length → K j < K j'
/-- A program's kinds that were lent: a block of kinds with eight more, a block of kids each. -/
def LentAt (W : World) (BL : Nat) (K : Nat → Nat) (ks : List KindS) : Prop :=
  ∃ cs, BoxAt W BL 49 cs ∧ cs.size = (ks.length + 8) * 3 ∧ KindsLentTo W BL K ks ks.length cs ∧
    ∀ j, ks.length ≤ j → j < ks.length + 8 → cs[j * 3]? = some (.int .i64 (-78)) ∧ cs[j * 3 + 1]? = some (.int .i64 0) ∧ cs[j * 3 + 2]? = some (.slice none 0 0)

theorem set2 (cs : Array Value) (q : Nat) (a b : Value) (h : q * 2 + 1 < cs.size) :
    ((cs.setIfInBounds (q * 2) a).setIfInBounds (q * 2 + 1) b).size = cs.size ∧ ((cs.setIfInBounds (q * 2) a).setIfInBounds (q * 2 + 1) b)[q * 2]? = some a ∧ ((cs.setIfInBounds (q * 2) a).setIfInBounds (q * 2 + 1) b)[q * 2 + 1]? = some b ∧
    ∀ j, j ≠ q → ((cs.setIfInBounds (q * 2) a).setIfInBounds (q * 2 + 1) b)[j * 2]? = cs[j * 2]? ∧ ((cs.setIfInBounds (q * 2) a).setIfInBounds (q * 2 + 1) b)[j * 2 + 1]? = cs[j * 2 + 1]? := by
  refine ⟨by simp, ?_, ?_, fun j hj => ⟨?_, ?_⟩⟩
  · rw [Array.getElem?_setIfInBounds_ne (by omega), Array.getElem?_setIfInBounds_self_of_lt (by omega)]
  · rw [Array.getElem?_setIfInBounds_self_of_lt (by simp; omega)]
  · rw [Array.getElem?_setIfInBounds_ne (by omega), Array.getElem?_setIfInBounds_ne (by omega)]
  · rw [Array.getElem?_setIfInBounds_ne (by omega), Array.getElem?_setIfInBounds_ne (by omega)]
theorem set3 (cs : Array Value) (q : Nat) (a b c : Value) (h : q * 3 + 2 < cs.size) :
    (((cs.setIfInBounds (q * 3) a).setIfInBounds (q * 3 + 1) b).setIfInBounds (q * 3 + 2) c).size = cs.size ∧ (((cs.setIfInBounds (q * 3) a).setIfInBounds (q * 3 + 1) b).setIfInBounds (q * 3 + 2) c)[q * 3]? = some a ∧ (((cs.setIfInBounds (q * 3) a).setIfInBounds (q * 3 + 1) b).setIfInBounds (q * 3 + 2) c)[q * 3 + 1]? = some b ∧ (((cs.setIfInBounds (q * 3) a).setIfInBounds (q * 3 + 1) b).setIfInBounds (q * 3 + 2) c)[q * 3 + 2]? = some c ∧
    ∀ j, j ≠ q → (((cs.setIfInBounds (q * 3) a).setIfInBounds (q * 3 + 1) b).setIfInBounds (q * 3 + 2) c)[j * 3]? = cs[j * 3]? ∧ (((cs.setIfInBounds (q * 3) a).setIfInBounds (q * 3 + 1) b).setIfInBounds (q * 3 + 2) c)[j * 3 + 1]? = cs[j * 3 + 1]? ∧ (((cs.setIfInBounds (q * 3) a).setIfInBounds (q * 3 + 1) b).setIfInBounds (q * 3 + 2) c)[j * 3 + 2]? = cs[j * 3 + 2]? := by
  refine ⟨by simp, ?_, ?_, ?_, fun j hj => ⟨?_, ?_, ?_⟩⟩
  · rw [Array.getElem?_setIfInBounds_ne (by omega), Array.getElem?_setIfInBounds_ne (by omega), Array.getElem?_setIfInBounds_self_of_lt (by omega)]
  · rw [Array.getElem?_setIfInBounds_ne (by omega), Array.getElem?_setIfInBounds_self_of_lt (by simp; omega)]
  · rw [Array.getElem?_setIfInBounds_self_of_lt (by simp; omega)]
  · rw [Array.getElem?_setIfInBounds_ne (by omega), Array.getElem?_setIfInBounds_ne (by omega), Array.getElem?_setIfInBounds_ne (by omega)]
  · rw [Array.getElem?_setIfInBounds_ne (by omega), Array.getElem?_setIfInBounds_ne (by omega), Array.getElem?_setIfInBounds_ne (by omega)]
  · rw [Array.getElem?_setIfInBounds_ne (by omega), Array.getElem?_setIfInBounds_ne (by omega), Array.getElem?_setIfInBounds_ne (by omega)]
theorem get_some {cs : Array Value} {i : Nat} (h : i < cs.size) : ∃ v, cs[i]? = some v := ⟨_, Array.getElem?_eq_getElem h⟩
theorem kidCells_one (l : List KidS) : ∀ u ∈ kidCells l, u.oneCell' = true := by
  intro u hu
  obtain ⟨t, _, ht⟩ := List.mem_flatMap.1 hu
  simp at ht
  rcases ht with rfl | rfl <;> rfl
theorem kidCells_length (l : List KidS) : (kidCells l).length = l.length * 2 := by
  induction l with
  | nil => rfl
  | cons x r ih => unfold kidCells at ih ⊢; simp [ih]; omega
theorem kidsAt_cells {W : World} {a : Option Addr} {l : List KidS} (h : ∀ j c, l[j]? = some c → ∃ b o, a = some ⟨b, o, none⟩ ∧ True ∧ b < W.heap.size ∧ W.cell? ⟨b, o + j * 2, none⟩ = some (.int .i64 c.kind) ∧ W.cell? ⟨b, o + j * 2 + 1, none⟩ = some (.int .i64 c.less)) (ad : Addr) (ha : a = some ad) (j : Nat) (v : Value) (hj : (kidCells l)[j]? = some v) : ad.block < W.heap.size ∧ W.cell? (ad.add j) = some v := by
  have hlt : j < l.length * 2 := by rw [← kidCells_length]; exact (List.getElem?_eq_some_iff.1 hj).1
  obtain ⟨d, hd⟩ : ∃ d, l[j / 2]? = some d := ⟨_, List.getElem?_eq_getElem (by omega)⟩
  obtain ⟨b, o, e, _, hb, c0, c1⟩ := h _ d hd
  obtain ⟨g0, g1⟩ := kidCells_get l _ d hd
  rw [ha] at e
  cases e
  have hadd : (⟨b, o, none⟩ : Addr).add j = ⟨b, o + j, none⟩ := by unfold Addr.add; split <;> simp_all
  refine ⟨hb, ?_⟩
  rw [hadd]
  rcases Nat.mod_two_eq_zero_or_one j with h2 | h2
  · have hjj : j / 2 * 2 = j := by omega
    rw [hjj] at c0 g0
    rw [← hj, g0, c0]
  · have hjj : j / 2 * 2 + 1 = j := by omega
    rw [Nat.add_assoc, hjj] at c1
    rw [hjj] at g1
    rw [← hj, g1, c1]
theorem sizeKid : (Tryd.prog.info? 46).map (·.size) = some 2 := by kernel_rfl

set_option maxHeartbeats 4000000 in
set_option maxRecDepth 100000 in
theorem lent_calls (a : Option Addr) (cap : Nat) (kind arg : Int) (ks : List KindS) (w : World) (hk : KindsAt (fun _ => True) w (.slice a ks.length cap) ks) (hl : ks.length * 40 ≤ 140737488351232) (hl2 : ∀ k ∈ ks, k.kids.length * 16 ≤ 140737488351232) :
    Calls Tryd.prog 8 #[.agg #[.slice a ks.length cap, .int .i64 kind, .int .i64 arg]] w fun e w' => ∃ BL K, e = .returned (.agg #[.slice (some ⟨BL, 0, none⟩) ks.length (ks.length + 8), .int .i64 kind, .int .i64 arg]) ∧
      LentAt w' BL K ks ∧ w.heap.size ≤ BL ∧ BL < w'.heap.size ∧ Below w.heap.size w w' := by
  obtain ⟨i0, hi, hz0, hz1, hz2⟩ := info_parts infoKind
  obtain ⟨i1, hi1, hy0, hy1, hy2⟩ := info_parts infoKid
  go_enter Tryd.func8, Tryd.ntmps8
  go_upto_region 2 with fail
  obtain ⟨V, hV⟩ : ∃ V, ((w.alloc (Obj.cells #[.slice a ks.length cap, .int .i64 kind, .int .i64 arg] 24)).alloc (Obj.cells #[.slice none 0 0, .int .i64 0, .int .i64 0] 24)).alloc (Obj.cells #[.slice a ks.length cap, .int .i64 kind, .int .i64 arg] 24) = V := ⟨_, rfl⟩
  have bP : BoxAt V w.heap.size 24 #[.slice a ks.length cap, .int .i64 kind, .int .i64 arg] := by rw [← hV]; exact ((BoxAt.new w _ _).alloc _).alloc _
  have bR : BoxAt V (w.heap.size + 1) 24 #[.slice none 0 0, .int .i64 0, .int .i64 0] := by
    rw [← hV]; have := (BoxAt.new (w.alloc (Obj.cells #[Value.slice a ks.length cap, Value.int IntKind.i64 kind, Value.int IntKind.i64 arg] 24)) 24 #[Value.slice none 0 0, .int .i64 0, .int .i64 0]).alloc (Obj.cells #[.slice a ks.length cap, .int .i64 kind, .int .i64 arg] 24)
    simpa only [World.size_alloc] using this
  have bX : BoxAt V (w.heap.size + 1 + 1) 24 #[.slice a ks.length cap, .int .i64 kind, .int .i64 arg] := by
    rw [← hV]; have := BoxAt.new ((w.alloc (Obj.cells #[Value.slice a ks.length cap, Value.int IntKind.i64 kind, Value.int IntKind.i64 arg] 24)).alloc (Obj.cells #[Value.slice none 0 0, .int .i64 0, .int .i64 0] 24)) 24 #[.slice a ks.length cap, .int .i64 kind, .int .i64 arg]
    simpa only [World.size_alloc] using this
  have hbV : Below w.heap.size w V := by rw [← hV]; exact (((Below.refl _ _).alloc (Nat.le_refl _) _).alloc (by simp) _).alloc (by simp; omega) _
  have sV : V.heap.size = w.heap.size + 3 := by rw [← hV]; simp
  rw [hV]
  clear hV
  have p0 := bP.cell (o := 0) rfl
  go_wp2_with (at_make; refine wpList_make_full _ rfl _ _ 22 rfl V.heap.size 49 i0 _ 3 Tryd.underlying22 hi hz0 hz1 .i64 .i64 _ _ (ks.length + 8) rfl rfl (by simp) (by simp) (by rw [hz2]; omega) (by unfold maxLen; omega) (Nat.le_refl _) ?_; intro w1 hown1 hgrow1; have hkw1 : Kept (fun _ => False) V w1 := Kept.grown hgrow1 (fun r e => by cases e); have r0 := (bP.kept hkw1 (fun h => h)).cell (o := 0) rfl)
  have hown1' : w1.ownsRow (w.heap.size + 3) 49 3 (.slice (some ⟨w.heap.size + 3, 0, none⟩) (ks.length + 8) (ks.length + 8)) (ks.length + 8) (madeCells (Value.agg #[Value.int IntKind.i64 0, Value.int IntKind.i64 0, Value.slice none 0 0]).cells ((ks.length + 8) * 3)).toList := by rw [← sV]; exact hown1
  obtain ⟨cur, hcur, hcs⟩ := box_of_row hown1'
  have hbw1 : Below w.heap.size w w1 := hbV.trans (hkw1.below (by omega) (fun _ h => h.elim))
  have bP1 := bP.kept hkw1 (fun h => h)
  have bR1 := bR.kept hkw1 (fun h => h)
  have bX1 := bX.kept hkw1 (fun h => h)
  have hL1 := hcur.lt
  clear hown1 hown1' hgrow1 p0 r0
  go_loopw [5] (fun iv wr => ∃ (m : Nat) (K : Nat → Nat) (cs : Array Value), m ≤ ks.length ∧ iv = .int .i64 m ∧ BoxAt wr (w.heap.size + 3) 49 cs ∧ cs.size = (ks.length + 8) * 3 ∧ KindsLentTo wr (w.heap.size + 3) K ks m cs ∧ Kept (· = w.heap.size + 3) w1 wr) (fun iv _ => ks.length - (intOf iv).toNat)
  case atStart => exact ⟨0, fun _ => 0, cur, Nat.zero_le _, rfl, hcur, hcs, ⟨fun j c h => absurd h (Nat.not_lt_zero _), fun j j' _ h => absurd h (Nat.not_lt_zero _)⟩, Kept.refl _ _⟩
  case round =>
    obtain ⟨m, K, cs, hm, rfl, hbl, hcsz, hlent, hkw⟩ := hrel
    rename World => Wo
    have hszo := hkw.size
    have hbo : Below w.heap.size w Wo := hbw1.trans (hkw.below (B := w.heap.size) (by omega) (fun k e => by omega))
    have bPo := bP1.kept hkw (fun e => by omega)
    have HLENT : Hid (KindsLentTo Wo (w.heap.size + 3) K ks m cs) := hlent
    have HBL : Hid (BoxAt Wo (w.heap.size + 3) 49 cs) := hbl
    have HKW : Hid (Kept (· = w.heap.size + 3) w1 Wo) := hkw
    have p0 := bPo.cell (o := 0) rfl
    clear hlent hbl hkw
    by_cases hlt : m < ks.length
    · obtain ⟨c, hcc⟩ : ∃ c, ks[m]? = some c := ⟨_, List.getElem?_eq_getElem hlt⟩
      have hk' := hk
      obtain ⟨_, _, e0, hc⟩ := hk'
      simp only [Value.slice.injEq] at e0
      obtain ⟨rfl, -, rfl⟩ := e0
      obtain ⟨b, o, kv, rfl, -, hbw, c0, c1, c2, hkk⟩ := hc m c hcc
      obtain ⟨a', cap', rfl, h'⟩ := hkk
      have d0 := (hbo.cell (p := ⟨b, o + m * 3, none⟩) hbw).trans c0
      have d1 := (hbo.cell (p := ⟨b, o + m * 3 + 1, none⟩) hbw).trans c1
      have d2 := (hbo.cell (p := ⟨b, o + m * 3 + 2, none⟩) hbw).trans c2
      have hcl := hl2 c (List.mem_of_getElem? hcc)
      have HSRC : Hid (∀ ad, a' = some ad → ∀ j v, (kidCells c.kids)[j]? = some v → ad.block < w.heap.size ∧ w.cell? (ad.add j) = some v) := fun ad ha j v hj => kidsAt_cells h' ad ha j v hj
      have HNONE : Hid (a' = none → c.kids.length = 0) := fun e => by
        subst e
        rcases Nat.eq_zero_or_pos c.kids.length with h | h
        · exact h
        · obtain ⟨_, _, e, _⟩ := h' 0 _ (List.getElem?_eq_getElem h)
          cases e
      clear hc h' c0 c1 c2
      have i1' : (0 : Int) ≤ (m : Int) := by omega
      have i2' : (m : Int) < (ks.length : Int) := by omega
      have kb0 := BoxAt.new Wo 49 #[.int .i64 c.A, .int .i64 c.B, .slice a' c.kids.length cap']
      have kz2 := kb0.cell (o := 2) rfl
      have HKB0 : Hid (BoxAt (Wo.alloc (.cells #[.int .i64 c.A, .int .i64 c.B, .slice a' c.kids.length cap'] 49)) Wo.heap.size 49 #[.int .i64 c.A, .int .i64 c.B, .slice a' c.kids.length cap']) := kb0
      clear kb0
      go_upto_region 8 with (at_make; refine wpList_make_full _ rfl _ _ 47 rfl (Wo.heap.size + 1) 46 i1 _ 2 Tryd.underlying47 hi1 hy0 hy1 .i64 .i64 _ _ (c.kids.length + 8) rfl rfl (by simp) (by simp) (by rw [hy2]; omega) (by unfold maxLen; omega) (by simp) ?_; intro w2 hown2 hgrow2; have hk2 : Kept (fun _ => False) (Wo.alloc (.cells #[.int .i64 c.A, .int .i64 c.B, .slice a' c.kids.length cap'] 49)) w2 := Kept.grown hgrow2 (fun r e => by cases e); have HK2 : Hid (Kept (fun _ => False) (Wo.alloc (.cells #[.int .i64 c.A, .int .i64 c.B, .slice a' c.kids.length cap'] 49)) w2) := hk2; have kb2 := HKB0.out.kept hk2 (fun h => h); have kc2 := kb2.cell (o := 2) rfl; clear hk2 kb2)
      have hszA : Wo.heap.size + 1 ≤ w2.heap.size := by have := HK2.out.size; simpa using this
      have hown2' : w2.ownsRow (Wo.heap.size + 1) 46 2 (.slice (some ⟨Wo.heap.size + 1, 0, none⟩) (c.kids.length + 8) (c.kids.length + 8)) (c.kids.length + 8) (madeCells (Value.agg #[Value.int IntKind.i64 0, Value.int IntKind.i64 0]).cells ((c.kids.length + 8) * 2)).toList := by simpa using hown2
      obtain ⟨cur2, hcur2, hcs2⟩ := box_of_row hown2'
      clear hown2 hown2' hgrow2
      have hbo2 : Below Wo.heap.size Wo w2 := ((Below.refl _ Wo).alloc (Nat.le_refl _) _).trans (HK2.out.below (by simp) (fun _ h => h.elim))
      have hbw2 : Below w.heap.size w w2 := hbo.trans (hbo2.mono hbo.size)
      have HSRC2 : Hid (∀ ad, a' = some ad → ∀ j v, (kidCells c.kids)[j]? = some v → w2.cell? (ad.add j) = some v) := fun ad ha j v hj => by
        obtain ⟨h1, h2⟩ := HSRC.out ad ha j v hj
        have hblk : (ad.add j).block = ad.block := by unfold Addr.add; split <;> rfl
        exact (hbw2.cell (by rw [hblk]; exact h1)).trans h2
      have HKB2 : Hid (BoxAt w2 Wo.heap.size 49 #[.int .i64 c.A, .int .i64 c.B, .slice a' c.kids.length cap']) := HKB0.out.kept HK2.out (fun h => h)
      go_wp2_with (refine wpList_copyK rfl _ _ _ _ rfl 46 2 Tryd.underlying47 sizeKid (Wo.heap.size + 1) (c.kids.length + 8) (c.kids.length + 8) a' c.kids.length cap' rfl rfl (by omega) cur2 46 hcur2 (kidCells c.kids) (kidCells_length _) HSRC2.out HNONE.out (by rw [kidCells_length, hcs2]; omega) (kidCells_one _) ?_; intro w3 hb3 hk3 hs3; have kb3 := HKB2.out.kept hk3.out (fun e => by omega); have kc3 := kb3.cell (o := 2) rfl; have HKB3 : Hid (BoxAt w3 Wo.heap.size 49 #[.int .i64 c.A, .int .i64 c.B, .slice a' c.kids.length cap']) := kb3; clear kb3)
      go_loopw [8] (fun jv wy => ∃ (q : Nat) (cs2 : Array Value), c.kids.length ≤ q ∧ q ≤ c.kids.length + 8 ∧ jv = .int .i64 q ∧ BoxAt wy (Wo.heap.size + 1) 46 cs2 ∧ cs2.size = (c.kids.length + 8) * 2 ∧ (∀ j d, c.kids[j]? = some d → cs2[j * 2]? = some (.int .i64 d.kind) ∧ cs2[j * 2 + 1]? = some (.int .i64 d.less)) ∧ (∀ j, c.kids.length ≤ j → j < q → cs2[j * 2]? = some (.int .i64 0) ∧ cs2[j * 2 + 1]? = some (.int .i64 (-77))) ∧ Kept (· = Wo.heap.size + 1) w3 wy) (fun jv _ => c.kids.length + 8 - (intOf jv).toNat)
      case atStart =>
        refine ⟨c.kids.length, _, Nat.le_refl _, by omega, rfl, hb3.out, ?_, ?_, fun j h1 h2 => absurd h2 (by omega), Kept.refl _ _⟩
        · simp [kidCells_length, hcs2]; omega
        · intro j d hd
          obtain ⟨g0, g1⟩ := kidCells_get c.kids j d hd
          have hj := (List.getElem?_eq_some_iff.1 hd).1
          rw [List.getElem?_toArray, List.getElem?_toArray, List.getElem?_append_left (by rw [kidCells_length]; omega), List.getElem?_append_left (by rw [kidCells_length]; omega)]
          exact ⟨g0, g1⟩
      case round =>
        obtain ⟨q, cs2, hq1, hq2, rfl, hbk, hszk, hkc, hsp, hkY⟩ := hrel
        rename World => Wy
        have HBK : Hid (BoxAt Wy (Wo.heap.size + 1) 46 cs2) := hbk
        have HKC : Hid (∀ j d, c.kids[j]? = some d → cs2[j * 2]? = some (.int .i64 d.kind) ∧ cs2[j * 2 + 1]? = some (.int .i64 d.less)) := hkc
        have HSP : Hid (∀ j, c.kids.length ≤ j → j < q → cs2[j * 2]? = some (.int .i64 0) ∧ cs2[j * 2 + 1]? = some (.int .i64 (-77))) := hsp
        have HKY : Hid (Kept (· = Wo.heap.size + 1) w3 Wy) := hkY
        have hsY := hkY.size
        have HKBY : Hid (BoxAt Wy Wo.heap.size 49 #[.int .i64 c.A, .int .i64 c.B, .slice a' c.kids.length cap']) := HKB3.out.kept hkY (fun e => by omega)
        clear hkc hsp hkY hbk
        by_cases hql : q < c.kids.length + 8
        · obtain ⟨v0, hv0⟩ := get_some (cs := cs2) (i := q * 2) (by omega)
          obtain ⟨v1, hv1⟩ := get_some (cs := cs2) (i := q * 2 + 1) (by omega)
          have y0 := HBK.out.cell hv0
          have y1 := HBK.out.cell hv1
          have z0 := HBK.out.frozen (q * 2)
          have z1 := HBK.out.frozen (q * 2 + 1)
          have j1 : (0 : Int) ≤ (q : Int) := by omega
          have j2 : (q : Int) < (c.kids.length : Int) + 8 := by omega
          go_wp2_with fail
          go_roundw
          case rel =>
            obtain ⟨t1, t2, t3, t4⟩ := set2 cs2 q (.int .i64 0) (.int .i64 (-77)) (by omega)
            refine ⟨q + 1, _, by omega, by omega, by go_num, (HBK.out.setAt (q * 2) _).setAt (q * 2 + 1) _, by rw [t1]; exact hszk, fun j d hd => ?_, fun j h1 h2 => ?_, (HKY.out.setCell (.inl rfl) _).setCell (.inl rfl) _⟩
            · have hj := (List.getElem?_eq_some_iff.1 hd).1
              rw [(t4 j (by omega)).1, (t4 j (by omega)).2]
              exact HKC.out j d hd
            · rcases Nat.lt_or_ge j q with h | h
              · rw [(t4 j (by omega)).1, (t4 j (by omega)).2]
                exact HSP.out j h1 h
              · obtain rfl : j = q := by omega
                exact ⟨t2, t3⟩
          case measure => simp [intOf]; omega
        · obtain rfl : q = c.kids.length + 8 := by omega
          have k0 := HKBY.out.cell (o := 0) rfl
          have k1 := HKBY.out.cell (o := 1) rfl
          have k2 := HKBY.out.cell (o := 2) rfl
          have f2 := HKBY.out.frozen 2
          have n1 : (0 : Int) ≤ (c.kids.length : Int) := by omega
          have n2 : (c.kids.length : Int) ≤ (c.kids.length : Int) + 8 := by omega
          have HKL : Hid (KidsLent Wy (Wo.heap.size + 1) c.kids) := ⟨cs2, HBK.out, hszk, HKC.out, HSP.out⟩
          go_upto_region 14 with fail
          obtain ⟨Wk, hWk⟩ : ∃ Wk, Wy.setCell ⟨Wo.heap.size, 2, none⟩ (Value.slice (some ⟨Wo.heap.size + 1, 0, none⟩) c.kids.length (c.kids.length + 8)) = Wk := ⟨_, rfl⟩
          have kk : BoxAt Wk Wo.heap.size 49 #[.int .i64 c.A, .int .i64 c.B, .slice (some ⟨Wo.heap.size + 1, 0, none⟩) c.kids.length (c.kids.length + 8)] := by rw [← hWk]; exact HKBY.out.setAt 2 _
          have hoY : Below Wo.heap.size Wo Wy := (hbo2.trans (hk3.out.below (B := Wo.heap.size) (by omega) (fun k e => by omega))).trans (HKY.out.below (B := Wo.heap.size) (by omega) (fun k e => by omega))
          have hoK : Below Wo.heap.size Wo Wk := by rw [← hWk]; exact hoY.setCell (p := ⟨Wo.heap.size, 2, none⟩) (Nat.le_refl _) _
          have klk : KidsLent Wk (Wo.heap.size + 1) c.kids := by
            have kks : Kept (· = Wo.heap.size) Wy (Wy.setCell ⟨Wo.heap.size, 2, none⟩ (Value.slice (some ⟨Wo.heap.size + 1, 0, none⟩) c.kids.length (c.kids.length + 8))) := (Kept.refl _ _).setCell (.inl (by rfl)) _
            rw [← hWk]
            exact HKL.out.kept kks (fun e => by omega)
          have HKLK : Hid (KidsLent Wk (Wo.heap.size + 1) c.kids) := klk
          rw [hWk]
          clear hWk klk k0 k1 k2 f2
          have g0 := kk.cell (o := 0) rfl
          have g1 := kk.cell (o := 1) rfl
          have g2 := kk.cell (o := 2) rfl
          have bl := HBL.out.below hoK (by omega)
          have HBLK : Hid (BoxAt Wk (w.heap.size + 3) 49 cs) := bl
          obtain ⟨v0, hv0⟩ := get_some (cs := cs) (i := m * 3) (by omega)
          obtain ⟨v1, hv1⟩ := get_some (cs := cs) (i := m * 3 + 1) (by omega)
          obtain ⟨v2, hv2⟩ := get_some (cs := cs) (i := m * 3 + 2) (by omega)
          have y0 := bl.cell hv0
          have y1 := bl.cell hv1
          have y2 := bl.cell hv2
          have z0 := bl.frozen (m * 3)
          have z1 := bl.frozen (m * 3 + 1)
          have z2 := bl.frozen (m * 3 + 2)
          have m2 : (m : Int) < (ks.length : Int) + 8 := by omega
          have hkl := kk.lt
          clear kk bl
          go_wp2_with fail
          go_roundw
          case rel =>
            obtain ⟨t1, t2, t3, t4, t5⟩ := set3 cs m (.int .i64 c.A) (.int .i64 c.B) (.slice (some ⟨Wo.heap.size + 1, 0, none⟩) c.kids.length (c.kids.length + 8)) (by omega)
            have hkK : Kept (· = w.heap.size + 3) w1 Wk := HKW.out.later hoK hszo
            have hkZ : Kept (· = w.heap.size + 3) Wo Wk := Kept.of_below hoK (fun k hk e => absurd hk (by omega))
            have hset : ∀ {A : World}, Kept (· = w.heap.size + 3) A Wk → Kept (· = w.heap.size + 3) A (((Wk.setCell ⟨w.heap.size + 3, m * 3, none⟩ (.int .i64 c.A)).setCell ⟨w.heap.size + 3, m * 3 + 1, none⟩ (.int .i64 c.B)).setCell ⟨w.heap.size + 3, m * 3 + 2, none⟩ (.slice (some ⟨Wo.heap.size + 1, 0, none⟩) c.kids.length (c.kids.length + 8))) := fun h => ((h.setCell (.inl rfl) _).setCell (.inl rfl) _).setCell (.inl rfl) _
            refine ⟨m + 1, fun i => if i = m then Wo.heap.size + 1 else K i, _, hlt, by go_num, ((HBLK.out.setAt (m * 3) _).setAt (m * 3 + 1) _).setAt (m * 3 + 2) _, by rw [t1]; exact hcsz, ⟨fun j c' hj hc' => ?_, fun j j' hjj hj' hj2 => ?_⟩, hset hkK⟩
            · rcases Nat.lt_or_ge j m with h | h
              · obtain ⟨⟨h1, h2, h3⟩, h4, h5, h6⟩ := HLENT.out.1 j c' h hc'
                have hjm : j ≠ m := by omega
                dsimp only
                rw [if_neg hjm, (t5 j hjm).1, (t5 j hjm).2.1, (t5 j hjm).2.2]
                refine ⟨⟨h1, h2, h3⟩, h4.kept (hset hkZ) (fun e => by omega), h5, ?_⟩
                exact Nat.lt_of_lt_of_le h6 (hset hkZ).size
              · obtain rfl : j = m := by omega
                rw [hcc] at hc'
                cases hc'
                dsimp only
                rw [if_pos rfl]
                refine ⟨⟨t2, t3, t4⟩, HKLK.out.kept (hset (Kept.refl _ _)) (fun e => by omega), by omega, ?_⟩
                have := (hset (Kept.refl _ Wk)).size
                have := HKLK.out
                obtain ⟨_, hq, _⟩ := this
                have := hq.lt
                omega
            · have hjm : j ≠ m := by omega
              dsimp only
              rw [if_neg hjm]
              rcases Nat.lt_or_ge j' m with h | h
              · rw [if_neg (by omega)]
                exact HLENT.out.2 j j' hjj h hj2
              · obtain rfl : j' = m := by omega
                rw [if_pos rfl]
                obtain ⟨cj, hcj⟩ : ∃ cj, ks[j]? = some cj := ⟨_, List.getElem?_eq_getElem (by omega)⟩
                obtain ⟨_, _, _, h6⟩ := HLENT.out.1 j cj (by omega) hcj
                omega
          case measure => simp [intOf]; omega
    · obtain rfl : m = ks.length := by omega
      go_wp2_with fail
      go_loopw [9] (fun jv wy => ∃ (q : Nat) (cs2 : Array Value), ks.length ≤ q ∧ q ≤ ks.length + 8 ∧ jv = .int .i64 q ∧ BoxAt wy (w.heap.size + 3) 49 cs2 ∧ cs2.size = (ks.length + 8) * 3 ∧ KindsLentTo wy (w.heap.size + 3) K ks ks.length cs2 ∧ (∀ j, ks.length ≤ j → j < q → cs2[j * 3]? = some (.int .i64 (-78)) ∧ cs2[j * 3 + 1]? = some (.int .i64 0) ∧ cs2[j * 3 + 2]? = some (.slice none 0 0)) ∧ Kept (· = w.heap.size + 3) w1 wy) (fun jv _ => ks.length + 8 - (intOf jv).toNat)
      case atStart => exact ⟨ks.length, cs, Nat.le_refl _, by omega, rfl, HBL.out, hcsz, HLENT.out, fun j h1 h2 => absurd h2 (by omega), HKW.out⟩
      case round =>
        obtain ⟨q, cs2, hq1, hq2, rfl, hbk, hszk, hkl, hsp, hkY⟩ := hrel
        rename World => Wy
        have HBK : Hid (BoxAt Wy (w.heap.size + 3) 49 cs2) := hbk
        have HKLT : Hid (KindsLentTo Wy (w.heap.size + 3) K ks ks.length cs2) := hkl
        have HSP : Hid (∀ j, ks.length ≤ j → j < q → cs2[j * 3]? = some (.int .i64 (-78)) ∧ cs2[j * 3 + 1]? = some (.int .i64 0) ∧ cs2[j * 3 + 2]? = some (.slice none 0 0)) := hsp
        have HKY : Hid (Kept (· = w.heap.size + 3) w1 Wy) := hkY
        have hsY := hkY.size
        have bPy := bP1.kept hkY (fun e => by omega)
        have bRy := bR1.kept hkY (fun e => by omega)
        have bXy := bX1.kept hkY (fun e => by omega)
        clear hbk hkl hsp hkY p0
        by_cases hql : q < ks.length + 8
        · obtain ⟨v0, hv0⟩ := get_some (cs := cs2) (i := q * 3) (by omega)
          obtain ⟨v1, hv1⟩ := get_some (cs := cs2) (i := q * 3 + 1) (by omega)
          obtain ⟨v2, hv2⟩ := get_some (cs := cs2) (i := q * 3 + 2) (by omega)
          have y0 := HBK.out.cell hv0
          have y1 := HBK.out.cell hv1
          have y2 := HBK.out.cell hv2
          have z0 := HBK.out.frozen (q * 3)
          have z1 := HBK.out.frozen (q * 3 + 1)
          have z2 := HBK.out.frozen (q * 3 + 2)
          have j1 : (0 : Int) ≤ (q : Int) := by omega
          have j2 : (q : Int) < (ks.length : Int) + 8 := by omega
          clear bPy bRy bXy
          go_wp2_with fail
          go_roundw
          case rel =>
            obtain ⟨t1, t2, t3, t4, t5⟩ := set3 cs2 q (.int .i64 (-78)) (.int .i64 0) (.slice none 0 0) (by omega)
            have hset : ∀ {A : World}, Kept (· = w.heap.size + 3) A Wy → Kept (· = w.heap.size + 3) A (((Wy.setCell ⟨w.heap.size + 3, q * 3, none⟩ (.int .i64 (-78))).setCell ⟨w.heap.size + 3, q * 3 + 1, none⟩ (.int .i64 0)).setCell ⟨w.heap.size + 3, q * 3 + 2, none⟩ (.slice none 0 0)) := fun h => ((h.setCell (.inl rfl) _).setCell (.inl rfl) _).setCell (.inl rfl) _
            refine ⟨q + 1, _, by omega, by omega, by go_num, ((HBK.out.setAt (q * 3) _).setAt (q * 3 + 1) _).setAt (q * 3 + 2) _, by rw [t1]; exact hszk, ⟨fun j c' hj hc' => ?_, HKLT.out.2⟩, fun j h1 h2 => ?_, hset HKY.out⟩
            · obtain ⟨⟨h1, h2, h3⟩, h4, h5, h6⟩ := HKLT.out.1 j c' hj hc'
              have hjm : j ≠ q := by omega
              rw [(t5 j hjm).1, (t5 j hjm).2.1, (t5 j hjm).2.2]
              exact ⟨⟨h1, h2, h3⟩, h4.kept (hset (Kept.refl _ _)) (fun e => by omega), h5, Nat.lt_of_lt_of_le h6 (hset (Kept.refl _ Wy)).size⟩
            · rcases Nat.lt_or_ge j q with h | h
              · have hjm : j ≠ q := by omega
                rw [(t5 j hjm).1, (t5 j hjm).2.1, (t5 j hjm).2.2]
                exact HSP.out j h1 h
              · obtain rfl : j = q := by omega
                exact ⟨t2, t3, t4⟩
          case measure => simp [intOf]; omega
        · obtain rfl : q = ks.length + 8 := by omega
          have q0 := bPy.cell (o := 0) rfl
          have x0 := bXy.cell (o := 0) rfl
          have x1 := bXy.cell (o := 1) rfl
          have x2 := bXy.cell (o := 2) rfl
          have fx := bXy.frozen 0
          have y0 := bRy.cell (o := 0) rfl
          have y1 := bRy.cell (o := 1) rfl
          have y2 := bRy.cell (o := 2) rfl
          have fy0 := bRy.frozen 0
          have fy1 := bRy.frozen 1
          have fy2 := bRy.frozen 2
          have n1 : (0 : Int) ≤ (ks.length : Int) := by omega
          have n2 : (ks.length : Int) ≤ (ks.length : Int) + 8 := by omega
          go_wp2_with fail
          obtain ⟨Wx, hWx⟩ : ∃ Wx, Wy.setCell ⟨w.heap.size + 1 + 1, 0, none⟩ (Value.slice (some ⟨w.heap.size + 3, 0, none⟩) ks.length (ks.length + 8)) = Wx := ⟨_, rfl⟩
          have kx : Kept (· = w.heap.size + 1 + 1) Wy Wx := by rw [← hWx]; exact (Kept.refl _ _).setCell (.inl (by rfl)) _
          have bRx := bRy.kept kx (fun e => by omega)
          rw [hWx]
          have hT : BoxAt (((Wx.setCell ⟨w.heap.size + 1, 0, none⟩ (Value.slice (some ⟨w.heap.size + 3, 0, none⟩) ks.length (ks.length + 8))).setCell ⟨w.heap.size + 1, 1, none⟩ (.int .i64 kind)).setCell ⟨w.heap.size + 1, 2, none⟩ (.int .i64 arg)) (w.heap.size + 1) 24 #[(Value.slice (some ⟨w.heap.size + 3, 0, none⟩) ks.length (ks.length + 8)), .int .i64 kind, .int .i64 arg] :=
            ((bRx.setAt 0 _).setAt 1 _).setAt 2 _
          have kT : Kept (· = w.heap.size + 1) Wx (((Wx.setCell ⟨w.heap.size + 1, 0, none⟩ (Value.slice (some ⟨w.heap.size + 3, 0, none⟩) ks.length (ks.length + 8))).setCell ⟨w.heap.size + 1, 1, none⟩ (.int .i64 kind)).setCell ⟨w.heap.size + 1, 2, none⟩ (.int .i64 arg)) :=
            (((Kept.refl _ _).setCell (.inl (by rfl)) _).setCell (.inl (by rfl)) _).setCell (.inl (by rfl)) _
          have e0 := hT.cell (o := 0) rfl
          have e1 := hT.cell (o := 1) rfl
          have e2 := hT.cell (o := 2) rfl
          have kAll : Kept (fun b => b = w.heap.size + 1 + 1 ∨ b = w.heap.size + 1) Wy (((Wx.setCell ⟨w.heap.size + 1, 0, none⟩ (Value.slice (some ⟨w.heap.size + 3, 0, none⟩) ks.length (ks.length + 8))).setCell ⟨w.heap.size + 1, 1, none⟩ (.int .i64 kind)).setCell ⟨w.heap.size + 1, 2, none⟩ (.int .i64 arg)) := (kx.mono (fun _ _ h => .inl h)).trans (kT.mono (fun _ _ h => .inr h))
          have hlt3 := HBK.out.lt
          refine bodyPost_ret (v := .agg #[(Value.slice (some ⟨w.heap.size + 3, 0, none⟩) ks.length (ks.length + 8)), .int .i64 kind, .int .i64 arg]) (by simp [results, Tryd.results8, go_sem, e0, e1, e2]) rfl ⟨w.heap.size + 3, K, rfl, ⟨cs2, HBK.out.kept kAll (by omega), hszk, ⟨fun j c' hj hc' => ?_, HKLT.out.2⟩, HSP.out⟩, by omega, ?_, ?_⟩
          · obtain ⟨h1, h4, h5, h6⟩ := HKLT.out.1 j c' hj hc'
            exact ⟨h1, h4.kept kAll (by omega), h5, Nat.lt_of_lt_of_le h6 kAll.size⟩
          · exact Nat.lt_of_lt_of_le hlt3 kAll.size
          · exact (hbw1.trans (HKY.out.below (B := w.heap.size) (by omega) (fun k e => by omega))).trans (kAll.below (B := w.heap.size) (by omega) (fun k e => by omega))
end Go.Proofs.YtfanaanofjhlkaaDoor
