/-
  gleanlaw's Books.markV writes a list full of its mark and books it four times, each time one longer: every list that was booked stays full of its mark.
-/
import Derived.Test.YtfanaanofjhlkaaDoorBooks
namespace Go.Proofs.YtfanaanofjhlkaaDoor
open Go Go.RowKit

theorem infoBook : (Tryd.prog.info? 71).map (fun i => (i.zero, i.size, i.bytes)) = some (some (.agg #[.int .i64 0, .slice none 0 0, .slice none 0 0, .slice none 0 0]), 4, 80) := by kernel_rfl

/-- The cells of n marks. -/
def markCells (N : Int) (n : Nat) : List Value := pairCells (List.replicate n ((⟨#[]⟩ : ByteArray), -100000 - N))
theorem markCells_length (N : Int) (n : Nat) : (markCells N n).length = n * 2 := by
  unfold markCells
  rw [pairCells_length, List.length_replicate]
theorem markCells_snoc (N : Int) (n : Nat) : markCells N (n + 1) = markCells N n ++ [.string ⟨#[]⟩, .int .i64 (-100000 - N)] := by
  unfold markCells
  rw [List.replicate_succ', pairCells_snoc]
theorem markCells_get (N : Int) (n j : Nat) (h : j < n) : (markCells N n)[j * 2]? = some (.string ⟨#[]⟩) ∧ (markCells N n)[j * 2 + 1]? = some (.int .i64 (-100000 - N)) := by
  have := pairCells_get (List.replicate n ((⟨#[]⟩ : ByteArray), -100000 - N)) j (⟨#[]⟩, -100000 - N) (by simp [h])
  exact this

/-- A list of one's own whose elements are all the mark is full of it. -/
theorem mark_of_row {W : World} {G : Nat → Nat → Prop} {v : Value} {n : Nat} {N : Int} (h : W.ownsRow 0 32 2 v n (markCells N n)) (hn : n ≤ 4611686018427387904 ∧ 0 ≤ N ∧ N ≤ 100000) (hg : ∀ g, v.ownBlock = some g → G g n) : MarkAt W G v N := by
  obtain ⟨_, h⟩ := h
  rcases h with ⟨rfl, rfl⟩ | ⟨g, cap, cur, rfl, _, hcur, _, _, _, htk⟩
  · exact ⟨none, 0, 0, rfl, hn, fun j hj => absurd hj (by omega)⟩
  · refine ⟨_, n, cap, rfl, hn, fun j hj => ⟨g, cur, rfl, hg g rfl, hcur, ?_⟩⟩
    have e : ∀ i, i < n * 2 → cur[i]? = (markCells N n)[i]? := fun i hi => by
      rw [← htk, List.getElem?_take, if_pos hi]; simp
    rw [e _ (by omega), e _ (by omega)]
    exact markCells_get N n j hj

/-- What stands in a list of one's own may be written over, element by element. -/
theorem row_set {W : World} {v : Value} {n q : Nat} {xs : List Value} (h : W.ownsRow 0 32 2 v n xs) (hq : q < n) (x y : Value) :
    ∃ g cap cur, v = .slice (some ⟨g, 0, none⟩) n cap ∧ BoxAt W g 32 cur ∧ n * 2 ≤ cur.size ∧ ((W.setCell ⟨g, q * 2, none⟩ x).setCell ⟨g, q * 2 + 1, none⟩ y).ownsRow 0 32 2 v n ((xs.set (q * 2) x).set (q * 2 + 1) y) := by
  obtain ⟨hl, h⟩ := h
  rcases h with ⟨rfl, rfl⟩ | ⟨g, cap, cur, rfl, hb, hcur, hnc, hcm, hcs, htk⟩
  · omega
  · refine ⟨g, cap, cur, rfl, hcur, by rw [hcs]; omega, by simpa using hl, .inr ⟨g, cap, _, rfl, hb, (BoxAt.setAt (BoxAt.setAt hcur (q * 2) x) (q * 2 + 1) y), hnc, hcm, by simpa using hcs, ?_⟩⟩
    rw [← htk]
    simp [List.take_set]

theorem marks_eq {N : Int} {n : Nat} {xs : List Value} (hl : xs.length = n * 2) (h : ∀ j, j < n → xs[j * 2]? = some (.string ⟨#[]⟩) ∧ xs[j * 2 + 1]? = some (.int .i64 (-100000 - N))) : xs = markCells N n := by
  refine List.ext_getElem? fun i => ?_
  rcases Nat.lt_or_ge i (n * 2) with hi | hi
  · have h1 := h (i / 2) (by omega)
    have h2 := markCells_get N n (i / 2) (by omega)
    rcases Nat.mod_two_eq_zero_or_one i with h' | h'
    · have e : i / 2 * 2 = i := by omega
      rw [e] at h1 h2
      rw [h1.1, h2.1]
    · have e : i / 2 * 2 + 1 = i := by omega
      rw [e] at h1 h2
      rw [h1.2, h2.2]
  · rw [List.getElem?_eq_none (by omega), List.getElem?_eq_none (by rw [markCells_length]; omega)]
theorem row_form {W : World} {base e size n : Nat} {v : Value} {xs : List Value} (h : W.ownsRow base e size v n xs) : ∃ a cap, v = .slice a n cap := by
  rcases h.2 with ⟨rfl, rfl⟩ | ⟨g, cap, cur, rfl, _⟩
  · exact ⟨_, _, rfl⟩
  · exact ⟨_, _, rfl⟩
set_option maxHeartbeats 4000000 in
set_option maxRecDepth 100000 in
theorem markV_calls (F : Nat → Prop) (B : Nat) (N : Nat) (came : Int) (kV wV lv : Value) (bs : List (Int × Value)) (n : Nat) (xs : List Value) (w : World) (hF : ∀ b, w.heap.size ≤ b → F b) (hI : BooksAt F (fun g _ => F g) w B N came kV wV bs)
    (hl : w.ownsRow 0 32 2 lv n xs) (hlF : ∀ g, lv.ownBlock = some g → ¬ F g) (hN : N ≤ 1000) (hbs : bs.length ≤ 1000) (hn : n ≤ 1000000) :
    Calls Tryd.prog 26 #[.pointer (some ⟨B, 0, none⟩), lv] w fun e w' => e = .returned (.tuple #[]) ∧ ∃ bs', bs'.length = 4 ∧ BooksAt (fun b => F b ∨ lv.ownBlock = some b) (fun b _ => F b ∨ lv.ownBlock = some b) w' B (N + 1 : Nat) came kV wV (bs ++ bs') ∧ Kept (fun b => F b ∨ lv.ownBlock = some b) w w' := by
  obtain ⟨i0, hi, hz0, hz1, hz2⟩ := info_parts infoBook
  obtain ⟨i1, hi1, hy0, hy1, hy2⟩ := info_parts infoValue
  obtain ⟨vA, hbB, hrA, hFB, hFA, hmk⟩ := hI
  have HMK : Hid (∀ x ∈ bs, MarkAt w (fun g _ => F g) x.2 x.1) := hmk
  have HF : Hid (∀ b, w.heap.size ≤ b → F b) := hF
  have HLF : Hid (∀ g, lv.ownBlock = some g → ¬ F g) := hlF
  have HFA : Hid (∀ g, vA.ownBlock = some g → F g) := hFA
  have HL : Hid (w.ownsRow 0 32 2 lv n xs) := hl
  have HRA : Hid (w.ownsRow 0 71 4 vA bs.length (bookCells bs)) := hrA
  have hBl := hbB.lt
  have b0 := hbB.cell (o := 0) rfl
  have f0 := hbB.frozen 0
  clear hmk hF hlF hFA hl hrA
  go_enter Tryd.func26, Tryd.ntmps26
  have wr1 : IntKind.i64.wrap ((N : Int) + 1) = (N : Int) + 1 := IntWalk.i64_in _ (by omega)
  have wr2 : IntKind.i64.wrap (-100000 - ((N : Int) + 1)) = -100000 - ((N : Int) + 1) := IntWalk.i64_in _ (by omega)
  go_upto_region 2 with fail
  obtain ⟨V, hV⟩ : ∃ V, (w.setCell ⟨B, 0, none⟩ (.int .i64 ((N : Int) + 1))).alloc (Obj.cells #[.string ⟨#[]⟩, .int .i64 (-100000 - ((N : Int) + 1))] 32) = V := ⟨_, rfl⟩
  have bB : BoxAt V B 39 #[.int .i64 ((N : Int) + 1), .int .i64 came, .bool false, kV, wV, .slice none 0 0, .slice none 0 0, .slice none 0 0, .slice none 0 0, vA] := by rw [← hV]; exact (hbB.setAt 0 _).alloc _
  have bM : BoxAt V w.heap.size 32 #[.string ⟨#[]⟩, .int .i64 (-100000 - ((N : Int) + 1))] := by
    rw [← hV]; have := BoxAt.new (w.setCell ⟨B, 0, none⟩ (.int .i64 ((N : Int) + 1))) 32 #[.string ⟨#[]⟩, .int .i64 (-100000 - ((N : Int) + 1))]
    simpa using this
  have kV0 : Kept (· = B) w V := by rw [← hV]; exact ((Kept.refl _ _).setCell (.inl (by rfl)) _).trans (Kept.alloc _ _ _)
  have sV : V.heap.size = w.heap.size + 1 := by rw [← hV]; simp
  rw [hV]
  clear hV b0 f0
  have hLB : lv.ownBlock ≠ some B := row_ne HL.out hbB (by decide)
  have hAB : vA.ownBlock ≠ some B := row_ne HRA.out hbB (by decide)
  have HLV : Hid (V.ownsRow 0 32 2 lv n xs) := row_kept HL.out kV0 (fun g e h => hLB (by rw [e, h])) (Nat.le_refl _)
  have HRV : Hid (V.ownsRow 0 71 4 vA bs.length (bookCells bs)) := row_kept HRA.out kV0 (fun g e h => hAB (by rw [e, h])) (Nat.le_refl _)
  have HLT : Hid (∀ g, lv.ownBlock = some g → g < w.heap.size) := fun g e => (HL.out.lt g e).2
  have HBB : Hid (BoxAt V B 39 #[.int .i64 ((N : Int) + 1), .int .i64 came, .bool false, kV, wV, .slice none 0 0, .slice none 0 0, .slice none 0 0, .slice none 0 0, vA]) := bB
  have HBM : Hid (BoxAt V w.heap.size 32 #[.string ⟨#[]⟩, .int .i64 (-100000 - ((N : Int) + 1))]) := bM
  have HKV : Hid (Kept (· = B) w V) := kV0
  have HB0 : Hid (BoxAt w B 39 #[.int .i64 N, .int .i64 came, .bool false, kV, wV, .slice none 0 0, .slice none 0 0, .slice none 0 0, .slice none 0 0, vA]) := hbB
  have HFB : Hid (F B) := hFB
  have HLB : Hid (lv.ownBlock ≠ some B) := hLB
  have HAB : Hid (vA.ownBlock ≠ some B) := hAB
  clear bB bM kV0 hbB hFB hLB hAB
  have hlen : ∃ a cap, lv = .slice a n cap := by
    rcases HL.out.2 with ⟨rfl, rfl⟩ | ⟨g, cap, cur, rfl, _⟩
    · exact ⟨_, _, rfl⟩
    · exact ⟨_, _, rfl⟩
  obtain ⟨al, capl, hlv⟩ := hlen
  go_wp2_with fail
  go_loopw [5] (fun iv wr => ∃ (q : Nat) (ys : List Value), q ≤ n ∧ iv = .int .i64 q ∧ wr.ownsRow 0 32 2 lv n ys ∧ (∀ j, j < q → ys[j * 2]? = some (.string ⟨#[]⟩) ∧ ys[j * 2 + 1]? = some (.int .i64 (-100000 - ((N : Int) + 1)))) ∧ Kept (fun b => lv.ownBlock = some b) V wr) (fun iv _ => n - (intOf iv).toNat)
  case atStart => exact ⟨0, xs, Nat.zero_le _, rfl, HLV.out, fun j h => absurd h (by omega), Kept.refl _ _⟩
  case round =>
    obtain ⟨q, ys, hq, rfl, hrow, hys, hkw⟩ := hrel
    rename World => Wo
    have HROW : Hid (Wo.ownsRow 0 32 2 lv n ys) := hrow
    have HYS : Hid (∀ j, j < q → ys[j * 2]? = some (.string ⟨#[]⟩) ∧ ys[j * 2 + 1]? = some (.int .i64 (-100000 - ((N : Int) + 1)))) := hys
    have HKW : Hid (Kept (fun b => lv.ownBlock = some b) V Wo) := hkw
    have hszo := hkw.size
    have bMo := HBM.out.kept hkw (fun e => by have := HLT.out _ e; omega)
    have HBMO : Hid (BoxAt Wo w.heap.size 32 #[.string ⟨#[]⟩, .int .i64 (-100000 - ((N : Int) + 1))]) := bMo
    clear hrow hys hkw
    by_cases hlt : q < n
    · obtain ⟨g, cap, cur, rfl, hcur, hcn, hset⟩ := row_set HROW.out hlt (.string ⟨#[]⟩) (.int .i64 (-100000 - ((N : Int) + 1)))
      have HSET := hset
      have hyl := HROW.out.1
      obtain ⟨v0, hv0⟩ := get_some (cs := cur) (i := q * 2) (by omega)
      obtain ⟨v1, hv1⟩ := get_some (cs := cur) (i := q * 2 + 1) (by omega)
      have y0 := hcur.cell hv0
      have y1 := hcur.cell hv1
      have z0 := hcur.frozen (q * 2)
      have z1 := hcur.frozen (q * 2 + 1)
      have m0 := bMo.cell (o := 0) rfl
      have m1 := bMo.cell (o := 1) rfl
      have j1 : (0 : Int) ≤ (q : Int) := by omega
      have j2 : (q : Int) < (n : Int) := by omega
      clear hlv hcur bMo hset
      go_wp2_with fail
      go_roundw
      case rel =>
        refine ⟨q + 1, _, by omega, by go_num, HSET, fun j hj => ?_, (HKW.out.setCell (.inl (by rfl)) _).setCell (.inl (by rfl)) _⟩
        rcases Nat.lt_or_ge j q with h | h
        · rw [List.getElem?_set_ne (by omega), List.getElem?_set_ne (by omega), List.getElem?_set_ne (by omega), List.getElem?_set_ne (by omega)]
          exact HYS.out j h
        · obtain rfl : j = q := by omega
          rw [List.getElem?_set_ne (by omega), List.getElem?_set_self (by omega), List.getElem?_set_self (by simp; omega)]
          exact ⟨rfl, rfl⟩
      case measure => simp [intOf]; omega
    · obtain rfl : q = n := by omega
      have hym : ys = markCells ((N : Int) + 1) q := marks_eq HROW.out.1 HYS.out
      subst hym
      have hLo : ∀ g, lv.ownBlock = some g → ∃ cs, BoxAt w g 32 cs := fun g e => row_obj HL.out e
      have HLO : Hid (∀ g, lv.ownBlock = some g → ∃ cs, BoxAt w g 32 cs) := hLo
      clear bMo hLo
      subst hlv
      go_wp2_with fail
      have hFL : ∀ g, F g → (Value.slice al q capl).ownBlock ≠ some g := fun g h e => HLF.out g e h
      have HFL : Hid (∀ g, F g → (Value.slice al q capl).ownBlock ≠ some g) := hFL
      clear hFL
      go_loopw [1, 6] (fun lw kv wr => ∃ (k : Nat) (bs' : List (Int × Value)), k ≤ 4 ∧ kv = .int .i64 k ∧ bs'.length = k ∧ wr.ownsRow 0 32 2 lw (q + k) (markCells ((N : Int) + 1) (q + k)) ∧ (∀ g, lw.ownBlock = some g → (Value.slice al q capl).ownBlock = some g ∨ w.heap.size < g) ∧ BoxAt wr w.heap.size 32 #[.string ⟨#[]⟩, .int .i64 (-100000 - ((N : Int) + 1))] ∧ BooksAt (fun b => F b ∨ (Value.slice al q capl).ownBlock = some b) (fun g n' => (F g ∨ (Value.slice al q capl).ownBlock = some g) ∧ g ≠ w.heap.size ∧ (lw.ownBlock = some g → n' ≤ q + k)) wr B ((N : Int) + 1) came kV wV (bs ++ bs') ∧ Kept (fun b => F b ∨ (Value.slice al q capl).ownBlock = some b) V wr) (fun _ kv _ => 4 - (intOf kv).toNat)
      case atStart =>
        refine ⟨0, [], by omega, rfl, rfl, HROW.out, fun g e => .inl e, HBMO.out, ⟨vA, HBB.out.kept HKW.out HLB.out, by rw [List.append_nil]; exact row_kept HRV.out HKW.out (fun g e h => HFL.out g (HFA.out g e) h) (Nat.le_refl _), .inl HFB.out, fun g e => .inl (HFA.out g e), fun x hx => ?_⟩, HKW.out.mono (fun _ _ h => .inr h)⟩
        · rw [List.append_nil] at hx
          refine (HMK.out x hx).kept ((HKV.out.mono (Y := fun b => b = B ∨ (Value.slice al q capl).ownBlock = some b) (fun _ _ h => .inl h)).trans (HKW.out.mono (fun _ _ h => .inr h))) (fun g n cs hb hf hX => ?_) (fun g n cs hb hf => ⟨.inl hf, by have := hb.lt; omega, fun e => absurd e (HFL.out g hf)⟩)
          rcases hX with rfl | h
          · have := hb.symm.trans HB0.out
            simp at this
          · exact HFL.out g hf h
      case round =>
        obtain ⟨k, bs', hk, rfl, hbl, hrw, hlw, hbm, hbk, hkF⟩ := hrel
        rename World => Wr
        obtain ⟨a1, c1, rfl⟩ := row_form hrw
        obtain ⟨vA', kbB, kra, kfB, kfA, kmk⟩ := hbk
        have HBL' : Hid (bs'.length = k) := hbl
        have HRW : Hid (Wr.ownsRow 0 32 2 (Value.slice a1 (q + k) c1) (q + k) (markCells ((N : Int) + 1) (q + k))) := hrw
        obtain ⟨nb, hnb⟩ : ∃ nb, (bs ++ bs').length = nb := ⟨_, rfl⟩
        have hnb2 : nb ≤ 1004 := by rw [← hnb, List.length_append]; omega
        rw [hnb] at kra
        have HNB : Hid ((bs ++ bs').length = nb) := hnb
        have HLW : Hid (∀ g, (Value.slice a1 (q + k) c1).ownBlock = some g → (Value.slice al q capl).ownBlock = some g ∨ w.heap.size < g) := hlw
        have HKA : Hid (∀ g, vA'.ownBlock = some g → F g ∨ (Value.slice al q capl).ownBlock = some g) := kfA
        have HKM : Hid (∀ x ∈ bs ++ bs', MarkAt Wr (fun g n' => (F g ∨ (Value.slice al q capl).ownBlock = some g) ∧ g ≠ w.heap.size ∧ ((Value.slice a1 (q + k) c1).ownBlock = some g → n' ≤ q + k)) x.2 x.1) := kmk
        have HKFB : Hid (F B ∨ (Value.slice al q capl).ownBlock = some B) := kfB
        have HKF : Hid (Kept (fun b => F b ∨ (Value.slice al q capl).ownBlock = some b) V Wr) := hkF
        have HKRA : Hid (Wr.ownsRow 0 71 4 vA' nb (bookCells (bs ++ bs'))) := kra
        have HKB : Hid (BoxAt Wr B 39 #[.int .i64 ((N : Int) + 1), .int .i64 came, .bool false, kV, wV, .slice none 0 0, .slice none 0 0, .slice none 0 0, .slice none 0 0, vA']) := kbB
        have HBM2 : Hid (BoxAt Wr w.heap.size 32 #[.string ⟨#[]⟩, .int .i64 (-100000 - ((N : Int) + 1))]) := hbm
        have hNE : vA'.ownBlock ≠ some B := row_ne kra kbB (by decide)
        have HNE : Hid (vA'.ownBlock ≠ some B) := hNE
        have hszr := hkF.size
        have hBr := kbB.lt
        have d0 := kbB.cell (o := 0) rfl
        have d9 := kbB.cell (o := 9) rfl
        have e9 := kbB.frozen 9
        clear hbl hnb hrw hlw hbm kbB kra kfB kfA kmk hkF hNE
        by_cases hk4 : k < 4
        · have r1 : (k : Int) < 4 := by omega
          go_upto_region 9 with fail
          go_cut [1] (fun lx wx => lx = Value.slice a1 (q + k) c1 ∧ ∃ vA2, BoxAt wx B 39 #[.int .i64 ((N : Int) + 1), .int .i64 came, .bool false, kV, wV, .slice none 0 0, .slice none 0 0, .slice none 0 0, .slice none 0 0, vA2] ∧ wx.ownsRow 0 71 4 vA2 (nb + 1) (bookCells ((bs ++ bs') ++ [((N : Int) + 1, (Value.slice a1 (q + k) c1))])) ∧ (∀ g, vA2.ownBlock = some g → F g ∨ (Value.slice al q capl).ownBlock = some g) ∧ Kept (fun b => b = B ∨ vA'.ownBlock = some b) Wr wx)
          case first =>
            go_region_law (refine step_append_lies _ (by rfl) _ _ _ (by rfl) 0 71 i0 _ 4 80 Tryd.underlying37 hi hz0 hz1 hz2 rfl (by omega) vA' nb (bookCells (bs ++ bs')) (by rfl) ((HKRA.out.alloc _).drew) ⟨Wr.heap.size, 0, none⟩ 1 1 [.int .i64 ((N : Int) + 1), (Value.slice a1 (q + k) c1), .slice none 0 0, .slice none 0 0] (by rfl) (by rfl) (World.news_of_block (cs := #[.int .i64 ((N : Int) + 1), (Value.slice a1 (q + k) c1), .slice none 0 0, .slice none 0 0]) (t := 71) (fr := (0, 0)) (heap_alloc_new Wr _)) (by simp [Value.oneCell']) (by omega) (by unfold maxLen; omega) (by omega) (by simp) (Wr.heap.size + 1) (by simp) ?_; intro g cp w1 hown1 hgrow hat hlt; have hbx : BoxAt w1 B 39 #[.int .i64 ((N : Int) + 1), .int .i64 came, .bool false, kV, wV, .slice none 0 0, .slice none 0 0, .slice none 0 0, .slice none 0 0, vA'] := (hgrow.block B (by simp; omega) (fun e => HNE.out e.symm)).trans (HKB.out.alloc _); have c9 := hbx.cell (o := 9) rfl; have f9 := hbx.frozen 9)
            all_goals
              go_wp2_with fail
              go_meet
              case rel =>
                have hne : g ≠ B := fun e => row_ne hown1 hbx (by decide) (by rw [e]; rfl)
                have hks : Kept (· = B) w1 (w1.setCell ⟨B, 9, none⟩ (.slice (some ⟨g, 0, none⟩) (nb + 1) cp)) := (Kept.refl _ _).setCell (.inl (by rfl)) _
                refine ⟨rfl, .slice (some ⟨g, 0, none⟩) (nb + 1) cp, hbx.setAt 9 _, ?_, fun g' hg' => ?_, ?_⟩
                · rw [bookCells_snoc]
                  exact row_kept hown1 hks (fun g' hg' hx => hne (by simp [Value.ownBlock] at hg'; omega)) (Nat.le_refl _)
                · simp [Value.ownBlock] at hg'
                  subst hg'
                  rcases hat with h | h
                  · exact HKA.out _ h
                  · exact .inl (HF.out _ (by omega))
                · have k1 : Kept (fun b => vA'.ownBlock = some b) (Wr.alloc (Obj.cells #[.int .i64 ((N : Int) + 1), (Value.slice a1 (q + k) c1), .slice none 0 0, .slice none 0 0] 71)) w1 := by
                    have := Kept.grown hgrow (X := fun b => vA'.ownBlock = some b) (fun r e => e)
                    exact ⟨this.os, this.tape, this.output, this.size, this.block⟩
                  exact ((Kept.alloc _ _ _).trans (k1.mono (fun _ _ h => .inr h))).trans (hks.mono (fun _ _ h => .inl h))
          case rest =>
            obtain ⟨rfl, vA2, hb2, hr2, hf2, hk2⟩ := hcut
            rename World => wx
            have HB2 : Hid (BoxAt wx B 39 #[.int .i64 ((N : Int) + 1), .int .i64 came, .bool false, kV, wV, .slice none 0 0, .slice none 0 0, .slice none 0 0, .slice none 0 0, vA2]) := hb2
            have HR2 : Hid (wx.ownsRow 0 71 4 vA2 (nb + 1) (bookCells ((bs ++ bs') ++ [((N : Int) + 1, (Value.slice a1 (q + k) c1))]))) := hr2
            have HF2 : Hid (∀ g, vA2.ownBlock = some g → F g ∨ (Value.slice al q capl).ownBlock = some g) := hf2
            have HK2 : Hid (Kept (fun b => b = B ∨ vA'.ownBlock = some b) Wr wx) := hk2
            have HT : Hid (∀ g cs, BoxAt Wr g 32 cs → ¬ (g = B ∨ vA'.ownBlock = some g)) := fun g cs hg hx => by
              rcases hx with rfl | h
              · have := hg.symm.trans HKB.out
                simp at this
              · obtain ⟨cs2, hcs2⟩ := row_obj HKRA.out h
                have := hg.symm.trans hcs2
                simp at this
            have hlwx : wx.ownsRow 0 32 2 (Value.slice a1 (q + k) c1) (q + k) (markCells ((N : Int) + 1) (q + k)) := row_kept HRW.out hk2 (fun g e => by obtain ⟨cs2, hcs2⟩ := row_obj HRW.out e; exact HT.out g cs2 hcs2) (Nat.le_refl _)
            have HLWX : Hid (wx.ownsRow 0 32 2 (Value.slice a1 (q + k) c1) (q + k) (markCells ((N : Int) + 1) (q + k))) := hlwx
            have bmx : BoxAt wx w.heap.size 32 #[.string ⟨#[]⟩, .int .i64 (-100000 - ((N : Int) + 1))] := HBM2.out.kept hk2 (HT.out _ _ HBM2.out)
            have HBMX : Hid (BoxAt wx w.heap.size 32 #[.string ⟨#[]⟩, .int .i64 (-100000 - ((N : Int) + 1))]) := bmx
            have m0 := bmx.cell (o := 0) rfl
            have m1 := bmx.cell (o := 1) rfl
            have hszx := hk2.size
            have hqk : q + k ≤ 1000004 := by omega
            clear hb2 hr2 hf2 hk2 hlwx bmx
            go_wp2_with (at_builtin; refine wpList_append_keeps rfl _ _ _ rfl 0 32 i1 _ 2 24 Tryd.underlying25 hi1 hy0 hy1 hy2 rfl (by omega) (Value.slice a1 (q + k) c1) (q + k) (markCells ((N : Int) + 1) (q + k)) rfl (HLWX.out.alloc _) ⟨wx.heap.size, 0, none⟩ 1 1 [.string ⟨#[]⟩, .int .i64 (-100000 - ((N : Int) + 1))] rfl rfl (World.news_of_block (cs := #[.string ⟨#[]⟩, .int .i64 (-100000 - ((N : Int) + 1))]) (t := 32) (fr := (0, 0)) (heap_alloc_new wx _)) (by simp [Value.oneCell']) (by omega) (by unfold maxLen; omega) (by omega) (Nat.zero_le _) ?_; intro g cp w1 hown1 hgrow1 hat1 hkeep1)
            go_roundw
            case rel =>
              have hka : Kept (fun _ => False) wx (wx.alloc (Obj.cells #[.string ⟨#[]⟩, .int .i64 (-100000 - ((N : Int) + 1))] 32)) := Kept.alloc _ _ _
              have hgk : Kept (fun b => (Value.slice a1 (q + k) c1).ownBlock = some b) (wx.alloc (Obj.cells #[.string ⟨#[]⟩, .int .i64 (-100000 - ((N : Int) + 1))] 32)) w1 := Kept.grown hgrow1 (fun r e => e)
              have hsa : (wx.alloc (Obj.cells #[.string ⟨#[]⟩, .int .i64 (-100000 - ((N : Int) + 1))] 32)).heap.size = wx.heap.size + 1 := by simp
              have hLW1 : ∀ g', (Value.slice a1 (q + k) c1).ownBlock = some g' → F g' ∨ (Value.slice al q capl).ownBlock = some g' := fun g' e => by
                rcases HLW.out g' e with h | h
                · exact .inr h
                · exact .inl (HF.out _ (by omega))
              have hkx : Kept (fun b => (Value.slice a1 (q + k) c1).ownBlock = some b) wx w1 := (hka.mono (fun _ _ h => h.elim)).trans hgk
              have hmark : ∀ (v : Value) (M : Int), MarkAt wx (fun g n' => (F g ∨ (Value.slice al q capl).ownBlock = some g) ∧ g ≠ w.heap.size ∧ ((Value.slice a1 (q + k) c1).ownBlock = some g → n' ≤ q + k)) v M → MarkAt w1 (fun g' n' => (F g' ∨ (Value.slice al q capl).ownBlock = some g') ∧ g' ≠ w.heap.size ∧ ((Value.slice (some ⟨g, 0, none⟩) (q + k + 1) cp).ownBlock = some g' → n' ≤ q + (k + 1))) v M := fun v M h => by
                refine ((h.kept hka (fun _ _ _ _ _ h => h) (fun _ _ _ hb h => ⟨h, hb.lt⟩) : MarkAt (wx.alloc (Obj.cells #[.string ⟨#[]⟩, .int .i64 (-100000 - ((N : Int) + 1))] 32)) (fun g n' => ((F g ∨ (Value.slice al q capl).ownBlock = some g) ∧ g ≠ w.heap.size ∧ ((Value.slice a1 (q + k) c1).ownBlock = some g → n' ≤ q + k)) ∧ g < wx.heap.size) v M)).grown (n0 := q + k) hgrow1 hkeep1.out (fun g' n' cs hb hG => ⟨hG.1.2.2, hG.1.1, hG.1.2.1, fun e => ?_⟩)
                simp [Value.ownBlock] at e
                subst e
                rcases hat1 with h' | h'
                · have := hG.1.2.2 h'
                  omega
                · have := hG.2
                  omega
              refine ⟨k + 1, bs' ++ [((N : Int) + 1, (Value.slice a1 (q + k) c1))], by omega, by go_num, by simp [HBL'.out], by rw [← Nat.add_assoc, markCells_snoc]; exact hown1, fun g' e => ?_, HBMX.out.kept hkx (fun e => ?_), ⟨vA2, HB2.out.kept hkx (row_ne HLWX.out HB2.out (by decide)), ?_, HKFB.out, HF2.out, fun x hx => ?_⟩, ?_⟩
              · simp [Value.ownBlock] at e
                subst e
                rcases hat1 with h | h
                · exact HLW.out _ h
                · exact .inr (by omega)
              · rcases HLW.out _ e with h | h
                · have := HLT.out _ h
                  omega
                · omega
              · rw [← List.append_assoc, List.length_append, HNB.out]
                refine row_kept HR2.out hkx (fun g' hg' hx => ?_) (Nat.le_refl _)
                obtain ⟨cs1, h1⟩ := row_obj HR2.out hg'
                obtain ⟨cs2, h2⟩ := row_obj HLWX.out hx
                have := h1.symm.trans h2
                simp at this
              · rw [← List.append_assoc] at hx
                rcases List.mem_append.1 hx with hx | hx
                · exact hmark _ _ ((HKM.out x hx).kept HK2.out (fun g n cs hb _ => HT.out g cs hb) (fun _ _ _ _ h => h))
                · simp only [List.mem_singleton] at hx
                  subst hx
                  exact hmark _ _ (mark_of_row HLWX.out (by omega) (fun g' e => ⟨hLW1 g' e, fun h => by
                    subst h
                    rcases HLW.out _ e with h | h
                    · have := HLT.out _ h
                      omega
                    · omega, fun _ => Nat.le_refl _⟩))
              · exact (HKF.out.trans (HK2.out.mono (fun g _ h => by
                  rcases h with rfl | h
                  · exact HKFB.out
                  · exact HKA.out _ h))).trans (hkx.mono (fun g _ h => hLW1 g h))
            case measure => simp [intOf]; omega
        · obtain rfl : k = 4 := by omega
          go_wp2_with fail
          go_end0
          have hc : ((N + 1 : Nat) : Int) = (N : Int) + 1 := by omega
          refine ⟨rfl, bs', HBL'.out, ?_, ?_⟩
          · rw [hc]
            exact ⟨vA', HKB.out, by rw [HNB.out]; exact HKRA.out, HKFB.out, HKA.out, fun x hx => (HKM.out x hx).mono (fun _ _ _ _ h => h.1)⟩
          · exact (HKV.out.mono (fun g _ h => by subst h; exact .inl HFB.out)).trans HKF.out
end Go.Proofs.YtfanaanofjhlkaaDoor
