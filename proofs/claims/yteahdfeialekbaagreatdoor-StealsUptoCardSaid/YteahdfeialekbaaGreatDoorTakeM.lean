/-
  The state of gleanlaw's books between two calls: which blocks are theirs; each list that was kept, and what it was, lie apart from all others.
-/
import Derived.Test.YteahdfeialekbaaGreatDoorRefTasks
import Derived.Test.YteahdfeialekbaaGreatDoorLikeM
namespace Go.Proofs.YteahdfeialekbaaGreatDoor
open Go Go.RowKit
def KeptL {α : Type} (t : TypeId) (sz : Nat) (enc : α -> List Value) (lab : Nat -> Nat) (i j : Nat) (W : World) (k w : Value) (l : List α) : Prop :=
 W.ownsRow 0 t sz k l.length (l.flatMap enc) /\ (∀ g, k.ownBlock = some g -> lab g = i) /\ W.ownsRow 0 t sz w l.length (l.flatMap enc) /\ (∀ g, w.ownBlock = some g -> lab g = j) /\ l.length <= 1000000
theorem KeptL.kept {α : Type} {t : TypeId} {sz : Nat} {enc : α -> List Value} {lab lab' : Nat -> Nat} {i j : Nat} {W W' : World} {k w : Value} {l : List α} {X : Nat -> Prop} (h : KeptL t sz enc lab i j W k w l) (hk : Kept X W W') (hx : ∀ g, g < W.heap.size -> lab g = i \/ lab g = j -> ¬ X g /\ lab' g = lab g) : KeptL t sz enc lab' i j W' k w l := by
 obtain ⟨h1, h2, h3, h4, h5⟩ := h
 exact ⟨row_kept h1 hk (fun g e => (hx g (h1.lt g e).2 (.inl (h2 g e))).1) (Nat.le_refl _), fun g e => ((hx g (h1.lt g e).2 (.inl (h2 g e))).2).trans (h2 g e),
  row_kept h3 hk (fun g e => (hx g (h3.lt g e).2 (.inr (h4 g e))).1) (Nat.le_refl _), fun g e => ((hx g (h3.lt g e).2 (.inr (h4 g e))).2).trans (h4 g e), h5⟩
theorem KeptL.nil {α : Type} (t : TypeId) (sz : Nat) (enc : α -> List Value) (lab : Nat -> Nat) (i j : Nat) (W : World) : KeptL t sz enc lab i j W (.slice none 0 0) (.slice none 0 0) [] :=
 ⟨World.ownsRow_nil _ _ _ _, (fun g e => by cases e), World.ownsRow_nil _ _ _ _, (fun g e => by cases e), by simp⟩
def BooksOK (F : Nat -> Prop) (W : World) (B N came : Nat) : Prop :=
 ∃ (lab : Nat -> Nat) (kV wV kT wT kM wM : Value) (lV : List (ByteArray × Int)) (lT : List TaskS) (lM : List MsgS) (bs : List Bk),
  (∀ b, lab b ≠ 0 -> F b) /\ bs.length = 4 * N /\ BooksX (fun b => lab b = 1) (fun b _ => lab b = 1) W B N came kV wV kT wT kM wM bs /\
  KeptL 84 2 valEnc lab 2 3 W kV wV lV /\ KeptL 76 3 taskEnc lab 4 5 W kT wT lT /\ KeptL 140 15 msgEnc lab 6 7 W kM wM lM
theorem BooksOK.kept {F F' X : Nat -> Prop} {W W' : World} {B N came : Nat} (h : BooksOK F W B N came) (hk : Kept X W W') (hx : ∀ g, g < W.heap.size -> F g -> ¬ X g /\ F' g) : BooksOK F' W' B N came := by
 obtain ⟨lab, kV, wV, kT, wT, kM, wM, lV, lT, lM, bs, h1, h2, h3, h4, h5, h6⟩ := h
 have hg : ∀ g, g < W.heap.size -> lab g ≠ 0 -> ¬ X g := fun g hl hn => (hx g hl (h1 g hn)).1
 refine ⟨fun b => if b < W.heap.size then lab b else 0, kV, wV, kT, wT, kM, wM, lV, lT, lM, bs, fun b hb => ?_, h2, h3.kept hk (fun g hl hn => hg g hl (by omega)) (fun g _ hl hn => hg g hl (by omega)) (fun g hl hn => by simp [hl, hn]) (fun g _ hl hn => by simp [hl, hn]),
  h4.kept hk (fun g hl hn => ⟨hg g hl (by omega), by simp [hl]⟩), h5.kept hk (fun g hl hn => ⟨hg g hl (by omega), by simp [hl]⟩), h6.kept hk (fun g hl hn => ⟨hg g hl (by omega), by simp [hl]⟩)⟩
 by_cases hl : b < W.heap.size
 ·exact (hx b hl (h1 b (by simpa [hl] using hb))).2
 ·simp [hl] at hb
theorem BooksOK.later {F : Nat -> Prop} {W W' : World} {B N came : Nat} (h : BooksOK F W B N came) (hk : Below W.heap.size W W') : BooksOK F W' B N came :=
 h.kept (Kept.of_below hk (X := fun b => W.heap.size <= b) (fun _ _ h => h)) (fun g hl hF => ⟨by omega, hF⟩)
theorem BooksOK.mono {F F' : Nat -> Prop} {W : World} {B N came : Nat} (h : BooksOK F W B N came) (hx : ∀ g, g < W.heap.size -> F g -> F' g) : BooksOK F' W B N came :=
 h.kept (Kept.refl (fun _ => False) W) (fun g hl hF => ⟨fun h => h, hx g hl hF⟩)
theorem BooksOK.new (W : World) : BooksOK (fun b => b = W.heap.size) (W.alloc (Obj.cells #[.int .i64 0, .int .i64 0, .bool false, .slice none 0 0, .slice none 0 0, .slice none 0 0, .slice none 0 0, .slice none 0 0, .slice none 0 0, .slice none 0 0] 56)) W.heap.size 0 0 :=
 ⟨fun b => if b = W.heap.size then 1 else 0, .slice none 0 0, .slice none 0 0, .slice none 0 0, .slice none 0 0, .slice none 0 0, .slice none 0 0, [], [], [], [], fun b hb => by simpa using hb, rfl,
  ⟨.slice none 0 0, BoxAt.new W _ _, World.ownsRow_nil _ _ _ _, by simp, (fun g e => by cases e), (fun x hx => by cases hx)⟩, KeptL.nil _ _ _ _ _ _ _, KeptL.nil _ _ _ _ _ _ _, KeptL.nil _ _ _ _ _ _ _⟩
set_option maxHeartbeats 4000000 in
set_option maxRecDepth 100000 in
theorem markerT_calls (F : Nat -> Prop) (B : Nat) (N : Nat) (came : Int) (kV wV kT wT kM wM lv : Value) (bs : List Bk) (n : Nat) (xs : List Value) (w : World) (hF : ∀ b, w.heap.size <= b -> F b) (hI : BooksX F (fun g _ => F g) w B N came kV wV kT wT kM wM bs)
  (hl : w.ownsRow 0 76 3 lv n xs) (hlF : ∀ g, lv.ownBlock = some g -> ¬ F g) (hN : N <= 400000000000) (hbs : bs.length <= 1700000000000) (hn : n <= 1000000) :
  Calls Tryz.prog 80 #[.pointer (some ⟨B, 0, none⟩), lv] w fun e w' => e = .returned (.tuple #[]) /\ ∃ bs', bs'.length = 4 /\ BooksX (fun b => F b \/ lv.ownBlock = some b) (fun b _ => F b \/ lv.ownBlock = some b) w' B (N + 1 : Nat) came kV wV kT wT kM wM (bs ++ bs') /\ Kept (fun b => F b \/ lv.ownBlock = some b) w w' := by
 obtain ⟨i0, hi, hz0, hz1, hz2⟩ := info_parts infoBook
 obtain ⟨i1, hi1, hy0, hy1, hy2⟩ := info_parts infoTask
 obtain ⟨vA, hbB, hrA, hFB, hFA, hmk⟩ := hI
 have HMK : Hid (∀ x ∈ bs, MarkedB w (fun g _ => F g) x) := hmk
 have HF : Hid (∀ b, w.heap.size <= b -> F b) := hF
 have HLF : Hid (∀ g, lv.ownBlock = some g -> ¬ F g) := hlF
 have HFA : Hid (∀ g, vA.ownBlock = some g -> F g) := hFA
 have HL : Hid (w.ownsRow 0 76 3 lv n xs) := hl
 have HRA : Hid (w.ownsRow 0 106 4 vA bs.length (bkCells bs)) := hrA
 have hBl := hbB.lt
 have b0 := hbB.cell (o := 0) rfl
 have f0 := hbB.frozen 0
 clear hmk hF hlF hFA hl hrA
 go_enter Tryz.func80, Tryz.ntmps80
 have wr1 : IntKind.i64.wrap ((N : Int) + 1) = (N : Int) + 1 := IntWalk.i64_in _ (by omega)
 have wr2 : IntKind.i64.wrap (-((N : Int) + 1)) = (-((N : Int) + 1)) := IntWalk.i64_in _ (by omega)
 go_upto_region 2 with fail
 obtain ⟨V, hV⟩ : ∃ V, (w.setCell ⟨B, 0, none⟩ (.int .i64 ((N : Int) + 1))).alloc (Obj.cells #[.string ⟨#[]⟩, .int .i64 0, .int .i64 (-((N : Int) + 1))] 76) = V := ⟨_, rfl⟩
 have bB : BoxAt V B 56 (booksCells ((N : Int) + 1) came kV wV kT wT kM wM vA) := by rw [<- hV]; exact (hbB.setAt 0 _).alloc _
 have bM : BoxAt V w.heap.size 76 #[.string ⟨#[]⟩, .int .i64 0, .int .i64 (-((N : Int) + 1))] := by
  rw [<- hV]; have := BoxAt.new (w.setCell ⟨B, 0, none⟩ (.int .i64 ((N : Int) + 1))) 76 #[.string ⟨#[]⟩, .int .i64 0, .int .i64 (-((N : Int) + 1))]
  simpa using this
 have kV0 : Kept (· = B) w V := by rw [<- hV]; exact ((Kept.refl _ _).setCell (.inl (by rfl)) _).trans (Kept.alloc _ _ _)
 have sV : V.heap.size = w.heap.size + 1 := by rw [<- hV]; simp
 rw [hV]
 clear hV b0 f0
 have hLB : lv.ownBlock ≠ some B := row_ne HL.out hbB (by decide)
 have hAB : vA.ownBlock ≠ some B := row_ne HRA.out hbB (by decide)
 have HLV : Hid (V.ownsRow 0 76 3 lv n xs) := row_kept HL.out kV0 (fun g e h => hLB (by rw [e, h])) (Nat.le_refl _)
 have HRV : Hid (V.ownsRow 0 106 4 vA bs.length (bkCells bs)) := row_kept HRA.out kV0 (fun g e h => hAB (by rw [e, h])) (Nat.le_refl _)
 have HLT : Hid (∀ g, lv.ownBlock = some g -> g < w.heap.size) := fun g e => (HL.out.lt g e).2
 have HBB : Hid (BoxAt V B 56 (booksCells ((N : Int) + 1) came kV wV kT wT kM wM vA)) := bB
 have HBM : Hid (BoxAt V w.heap.size 76 #[.string ⟨#[]⟩, .int .i64 0, .int .i64 (-((N : Int) + 1))]) := bM
 have HKV : Hid (Kept (· = B) w V) := kV0
 have HB0 : Hid (BoxAt w B 56 (booksCells N came kV wV kT wT kM wM vA)) := hbB
 have HFB : Hid (F B) := hFB
 have HLB : Hid (lv.ownBlock ≠ some B) := hLB
 have HAB : Hid (vA.ownBlock ≠ some B) := hAB
 clear bB bM kV0 hbB hFB hLB hAB
 have hlen : ∃ a cap, lv = .slice a n cap := by
  rcases HL.out.2 with ⟨rfl, rfl⟩ | ⟨g, cap, cur, rfl, _⟩
  ·exact ⟨_, _, rfl⟩
  ·exact ⟨_, _, rfl⟩
 obtain ⟨al, capl, hlv⟩ := hlen
 go_wp2_with fail
 have hmk : (sortT.el ((N : Int) + 1)).length = sortT.sz := rfl
 have HMKL : Hid ((sortT.el ((N : Int) + 1)).length = sortT.sz) := hmk
 clear hmk
 go_loopw [5] (fun iv wr => ∃ (q : Nat) (ys : List Value), q <= n /\ iv = .int .i64 q /\ wr.ownsRow 0 76 3 lv n ys /\ (∀ j i, j < q -> i < 3 -> ys[j * 3 + i]? = (sortT.el ((N : Int) + 1))[i]?) /\ Kept (fun b => lv.ownBlock = some b) V wr) (fun iv _ => n - (intOf iv).toNat)
 case atStart => exact ⟨0, xs, Nat.zero_le _, rfl, HLV.out, fun j i h => absurd h (by omega), Kept.refl _ _⟩
 case round =>
  obtain ⟨q, ys, hq, rfl, hrow, hys, hkw⟩ := hrel
  rename World => Wo
  have HROW : Hid (Wo.ownsRow 0 76 3 lv n ys) := hrow
  have HYS : Hid (∀ j i, j < q -> i < 3 -> ys[j * 3 + i]? = (sortT.el ((N : Int) + 1))[i]?) := hys
  have HKW : Hid (Kept (fun b => lv.ownBlock = some b) V Wo) := hkw
  have hszo := hkw.size
  have bMo := HBM.out.kept hkw (fun e => by have := HLT.out _ e; omega)
  have HBMO : Hid (BoxAt Wo w.heap.size 76 #[.string ⟨#[]⟩, .int .i64 0, .int .i64 (-((N : Int) + 1))]) := bMo
  clear hrow hys hkw
  by_cases hlt : q < n
  ·obtain ⟨g, cap, hgf, -, -⟩ := World.ownsRow.form HROW.out (by omega)
   subst hgf
   have HSET := row_putAll (sortT.el ((N : Int) + 1)) ys (q * 3) Wo HROW.out (by rw [HMKL.out]; show q * 3 + 3 <= n * 3; omega)
   obtain ⟨cur, hcur, hcn⟩ : ∃ cur, BoxAt Wo g 76 cur /\ n * 3 <= cur.size := by
    rcases HROW.out.2 with ⟨h0, _⟩ | ⟨g', cap', cur, h0, hb, hcur, hnc, hcm, hcs, htk⟩
    ·cases h0
    ·cases h0
     exact ⟨cur, hcur, by rw [hcs]; omega⟩
   have hyl := HROW.out.1
   obtain ⟨v0, hv0⟩ := get_some (cs := cur) (i := q * 3 + 0) (by omega)
   have y0 := hcur.cell hv0
   have z0 := hcur.frozen (q * 3 + 0)
   have m0 := bMo.cell (o := 0) rfl
   obtain ⟨v1, hv1⟩ := get_some (cs := cur) (i := q * 3 + 1) (by omega)
   have y1 := hcur.cell hv1
   have z1 := hcur.frozen (q * 3 + 1)
   have m1 := bMo.cell (o := 1) rfl
   obtain ⟨v2, hv2⟩ := get_some (cs := cur) (i := q * 3 + 2) (by omega)
   have y2 := hcur.cell hv2
   have z2 := hcur.frozen (q * 3 + 2)
   have m2 := bMo.cell (o := 2) rfl
   have j1 : (0 : Int) <= (q : Int) := by omega
   have j2 : (q : Int) < (n : Int) := by omega
   rw [Nat.add_zero] at y0 z0
   clear hlv hcur bMo
   go_wp2_with fail
   go_roundw
   case rel =>
    refine ⟨q + 1, _, by omega, by go_num, HSET, fun j i hj hi => ?_, (kept_putAll (X := fun b => (Value.slice (some ⟨g, 0, none⟩) n cap).ownBlock = some b) (A := V) (g := g) (.inl rfl) (sortT.el ((N : Int) + 1)) (q * 3) Wo HKW.out : Kept (fun b => (Value.slice (some ⟨g, 0, none⟩) n cap).ownBlock = some b) V (putAll Wo g (q * 3) (sortT.el ((N : Int) + 1))))⟩
    rcases Nat.lt_or_ge j q with h | h
    ·rw [setAll_out _ _ _ _ (.inl (by omega))]
     exact HYS.out j i h hi
    ·obtain rfl : j = q := by omega
     exact setAll_in _ _ _ _ (by rw [HMKL.out]; exact hi) (by rw [HMKL.out, hyl]; show j * 3 + 3 <= n * 3; omega)
   case measure => simp [intOf]; omega
  ·obtain rfl : q = n := by omega
   have hym : ys = markRow sortT ((N : Int) + 1) q := markRow_eq sortT _ _ (by decide) HMKL.out HROW.out.1 HYS.out
   subst hym
   have hLo : ∀ g, lv.ownBlock = some g -> ∃ cs, BoxAt w g 76 cs := fun g e => row_obj HL.out e
   have HLO : Hid (∀ g, lv.ownBlock = some g -> ∃ cs, BoxAt w g 76 cs) := hLo
   clear bMo hLo
   subst hlv
   go_wp2_with fail
   have hFL : ∀ g, F g -> (Value.slice al q capl).ownBlock ≠ some g := fun g h e => HLF.out g e h
   have HFL : Hid (∀ g, F g -> (Value.slice al q capl).ownBlock ≠ some g) := hFL
   clear hFL
   go_loopw [1, 6] (fun lw kv wr => ∃ (k : Nat) (bs' : List Bk), k <= 4 /\ kv = .int .i64 k /\ bs'.length = k /\ wr.ownsRow 0 76 3 lw (q + k) (markRow sortT ((N : Int) + 1) (q + k)) /\ (∀ g, lw.ownBlock = some g -> (Value.slice al q capl).ownBlock = some g \/ w.heap.size < g) /\ BoxAt wr w.heap.size 76 #[.string ⟨#[]⟩, .int .i64 0, .int .i64 (-((N : Int) + 1))] /\ BooksX (fun b => F b \/ (Value.slice al q capl).ownBlock = some b) (fun g n' => (F g \/ (Value.slice al q capl).ownBlock = some g) /\ g ≠ w.heap.size /\ (lw.ownBlock = some g -> n' <= q + k)) wr B ((N : Int) + 1) came kV wV kT wT kM wM (bs ++ bs') /\ Kept (fun b => F b \/ (Value.slice al q capl).ownBlock = some b) V wr) (fun _ kv _ => 4 - (intOf kv).toNat)
   case atStart =>
    refine ⟨0, [], by omega, rfl, rfl, HROW.out, fun g e => .inl e, HBMO.out, ⟨vA, HBB.out.kept HKW.out HLB.out, by rw [List.append_nil]; exact row_kept HRV.out HKW.out (fun g e h => HFL.out g (HFA.out g e) h) (Nat.le_refl _), .inl HFB.out, fun g e => .inl (HFA.out g e), fun x hx => ?_⟩, HKW.out.mono (fun _ _ h => .inr h)⟩
    ·rw [List.append_nil] at hx
     refine (HMK.out x hx).kept ((HKV.out.mono (Y := fun b => b = B \/ (Value.slice al q capl).ownBlock = some b) (fun _ _ h => .inl h)).trans (HKW.out.mono (fun _ _ h => .inr h))) (fun g n t cs ht hb hf hX => ?_) (fun g n t cs ht hb hf => ⟨.inl hf, by have := hb.lt; omega, fun e => absurd e (HFL.out g hf)⟩)
     rcases hX with rfl | h
     ·exact ht.ne.1 (boxAt_type hb HB0.out)
     ·exact HFL.out g hf h
   case round =>
    obtain ⟨k, bs', hk, rfl, hbl, hrw, hlw, hbm, hbk, hkF⟩ := hrel
    rename World => Wr
    obtain ⟨a1, c1, rfl⟩ := row_form hrw
    obtain ⟨vA', kbB, kra, kfB, kfA, kmk⟩ := hbk
    have HBL' : Hid (bs'.length = k) := hbl
    have HRW : Hid (Wr.ownsRow 0 76 3 (Value.slice a1 (q + k) c1) (q + k) (markRow sortT ((N : Int) + 1) (q + k))) := hrw
    obtain ⟨nb, hnb⟩ : ∃ nb, (bs ++ bs').length = nb := ⟨_, rfl⟩
    have hnb2 : nb <= 1700000000004 := by rw [<- hnb, List.length_append]; omega
    rw [hnb] at kra
    have HNB : Hid ((bs ++ bs').length = nb) := hnb
    have HLW : Hid (∀ g, (Value.slice a1 (q + k) c1).ownBlock = some g -> (Value.slice al q capl).ownBlock = some g \/ w.heap.size < g) := hlw
    have HKA : Hid (∀ g, vA'.ownBlock = some g -> F g \/ (Value.slice al q capl).ownBlock = some g) := kfA
    have HKM : Hid (∀ x ∈ bs ++ bs', MarkedB Wr (fun g n' => (F g \/ (Value.slice al q capl).ownBlock = some g) /\ g ≠ w.heap.size /\ ((Value.slice a1 (q + k) c1).ownBlock = some g -> n' <= q + k)) x) := kmk
    have HKFB : Hid (F B \/ (Value.slice al q capl).ownBlock = some B) := kfB
    have HKF : Hid (Kept (fun b => F b \/ (Value.slice al q capl).ownBlock = some b) V Wr) := hkF
    have HKRA : Hid (Wr.ownsRow 0 106 4 vA' nb (bkCells (bs ++ bs'))) := kra
    have HKB : Hid (BoxAt Wr B 56 (booksCells ((N : Int) + 1) came kV wV kT wT kM wM vA')) := kbB
    have HBM2 : Hid (BoxAt Wr w.heap.size 76 #[.string ⟨#[]⟩, .int .i64 0, .int .i64 (-((N : Int) + 1))]) := hbm
    have hNE : vA'.ownBlock ≠ some B := row_ne kra kbB (by decide)
    have HNE : Hid (vA'.ownBlock ≠ some B) := hNE
    have hszr := hkF.size
    have hBr := kbB.lt
    have d0 := kbB.cell (o := 0) rfl
    have d9 := kbB.cell (o := 9) rfl
    have e9 := kbB.frozen 9
    clear hbl hnb hrw hlw hbm kbB kra kfB kfA kmk hkF hNE
    by_cases hk4 : k < 4
    ·have r1 : (k : Int) < 4 := by omega
     go_upto_region 9 with fail
     go_cut [1] (fun lx wx => lx = Value.slice a1 (q + k) c1 /\ ∃ vA2, BoxAt wx B 56 (booksCells ((N : Int) + 1) came kV wV kT wT kM wM vA2) /\ wx.ownsRow 0 106 4 vA2 (nb + 1) (bkCells ((bs ++ bs') ++ [((N : Int) + 1, .slice none 0 0, (Value.slice a1 (q + k) c1), .slice none 0 0)])) /\ (∀ g, vA2.ownBlock = some g -> F g \/ (Value.slice al q capl).ownBlock = some g) /\ Kept (fun b => b = B \/ vA'.ownBlock = some b) Wr wx)
     case first =>
      go_region_law (refine step_append_lies _ (by rfl) _ _ _ (by rfl) 0 106 i0 _ 4 80 Tryz.underlying54 hi hz0 hz1 hz2 rfl (by omega) vA' nb (bkCells (bs ++ bs')) (by rfl) ((HKRA.out.alloc _).drew) ⟨Wr.heap.size, 0, none⟩ 1 1 [.int .i64 ((N : Int) + 1), .slice none 0 0, (Value.slice a1 (q + k) c1), .slice none 0 0] (by rfl) (by rfl) (World.news_of_block (cs := #[.int .i64 ((N : Int) + 1), .slice none 0 0, (Value.slice a1 (q + k) c1), .slice none 0 0]) (t := 106) (fr := (0, 0)) (heap_alloc_new Wr _)) (by simp [Value.oneCell']) (by omega) (by unfold maxLen; omega) (by omega) (by simp) (Wr.heap.size + 1) (by simp) ?_; intro g cp w1 hown1 hgrow hat hlt; have hbx : BoxAt w1 B 56 (booksCells ((N : Int) + 1) came kV wV kT wT kM wM vA') := (hgrow.block B (by simp; omega) (fun e => HNE.out e.symm)).trans (HKB.out.alloc _); have c9 := hbx.cell (o := 9) rfl; have f9 := hbx.frozen 9)
      all_goals
       go_wp2_with fail
       go_meet
       case rel =>
        have hne : g ≠ B := fun e => row_ne hown1 hbx (by decide) (by rw [e]; rfl)
        have hks : Kept (· = B) w1 (w1.setCell ⟨B, 9, none⟩ (.slice (some ⟨g, 0, none⟩) (nb + 1) cp)) := (Kept.refl _ _).setCell (.inl (by rfl)) _
        refine ⟨rfl, .slice (some ⟨g, 0, none⟩) (nb + 1) cp, hbx.setAt 9 _, ?_, fun g' hg' => ?_, ?_⟩
        ·rw [bkCells_snoc]
         exact row_kept hown1 hks (fun g' hg' hx => hne (by simp [Value.ownBlock] at hg'; omega)) (Nat.le_refl _)
        ·simp [Value.ownBlock] at hg'
         subst hg'
         rcases hat with h | h
         ·exact HKA.out _ h
         ·exact .inl (HF.out _ (by omega))
        ·have k1 : Kept (fun b => vA'.ownBlock = some b) (Wr.alloc (Obj.cells #[.int .i64 ((N : Int) + 1), .slice none 0 0, (Value.slice a1 (q + k) c1), .slice none 0 0] 106)) w1 := by
          have := Kept.grown hgrow (X := fun b => vA'.ownBlock = some b) (fun r e => e)
          exact ⟨this.os, this.tape, this.output, this.size, this.block⟩
         exact ((Kept.alloc _ _ _).trans (k1.mono (fun _ _ h => .inr h))).trans (hks.mono (fun _ _ h => .inl h))
     case rest =>
      obtain ⟨rfl, vA2, hb2, hr2, hf2, hk2⟩ := hcut
      rename World => wx
      have HB2 : Hid (BoxAt wx B 56 (booksCells ((N : Int) + 1) came kV wV kT wT kM wM vA2)) := hb2
      have HR2 : Hid (wx.ownsRow 0 106 4 vA2 (nb + 1) (bkCells ((bs ++ bs') ++ [((N : Int) + 1, .slice none 0 0, (Value.slice a1 (q + k) c1), .slice none 0 0)]))) := hr2
      have HF2 : Hid (∀ g, vA2.ownBlock = some g -> F g \/ (Value.slice al q capl).ownBlock = some g) := hf2
      have HK2 : Hid (Kept (fun b => b = B \/ vA'.ownBlock = some b) Wr wx) := hk2
      have HT3 : Hid (∀ g t cs, Sorted3 t -> BoxAt Wr g t cs -> ¬ (g = B \/ vA'.ownBlock = some g)) := fun g t cs ht hg hx => by
       rcases hx with rfl | h
       ·exact ht.ne.1 (boxAt_type hg HKB.out)
       ·obtain ⟨cs2, hcs2⟩ := row_obj HKRA.out h
        exact ht.ne.2 (boxAt_type hg hcs2)
      have HT : Hid (∀ g cs, BoxAt Wr g 76 cs -> ¬ (g = B \/ vA'.ownBlock = some g)) := fun g cs hg => HT3.out g _ cs (by unfold Sorted3; decide) hg
      have hlwx : wx.ownsRow 0 76 3 (Value.slice a1 (q + k) c1) (q + k) (markRow sortT ((N : Int) + 1) (q + k)) := row_kept HRW.out hk2 (fun g e => by obtain ⟨cs2, hcs2⟩ := row_obj HRW.out e; exact HT.out g cs2 hcs2) (Nat.le_refl _)
      have HLWX : Hid (wx.ownsRow 0 76 3 (Value.slice a1 (q + k) c1) (q + k) (markRow sortT ((N : Int) + 1) (q + k))) := hlwx
      have bmx : BoxAt wx w.heap.size 76 #[.string ⟨#[]⟩, .int .i64 0, .int .i64 (-((N : Int) + 1))] := HBM2.out.kept hk2 (HT.out _ _ HBM2.out)
      have HBMX : Hid (BoxAt wx w.heap.size 76 #[.string ⟨#[]⟩, .int .i64 0, .int .i64 (-((N : Int) + 1))]) := bmx
      have m0 := bmx.cell (o := 0) rfl
      have m1 := bmx.cell (o := 1) rfl
      have m2 := bmx.cell (o := 2) rfl
      have hszx := hk2.size
      have hqk : q + k <= 1000004 := by omega
      clear hb2 hr2 hf2 hk2 hlwx bmx
      go_wp2_with (at_builtin; refine wpList_append_keeps rfl _ _ _ rfl 0 76 i1 _ 3 32 Tryz.underlying52 hi1 hy0 hy1 hy2 rfl (by omega) (Value.slice a1 (q + k) c1) (q + k) (markRow sortT ((N : Int) + 1) (q + k)) rfl (HLWX.out.alloc _) ⟨wx.heap.size, 0, none⟩ 1 1 [.string ⟨#[]⟩, .int .i64 0, .int .i64 (-((N : Int) + 1))] rfl rfl (World.news_of_block (cs := #[.string ⟨#[]⟩, .int .i64 0, .int .i64 (-((N : Int) + 1))]) (t := 76) (fr := (0, 0)) (heap_alloc_new wx _)) (by simp [Value.oneCell']) (by omega) (by unfold maxLen; omega) (by omega) (Nat.zero_le _) ?_; intro g cp w1 hown1 hgrow1 hat1 hkeep1)
      go_roundw
      case rel =>
       have hka : Kept (fun _ => False) wx (wx.alloc (Obj.cells #[.string ⟨#[]⟩, .int .i64 0, .int .i64 (-((N : Int) + 1))] 76)) := Kept.alloc _ _ _
       have hgk : Kept (fun b => (Value.slice a1 (q + k) c1).ownBlock = some b) (wx.alloc (Obj.cells #[.string ⟨#[]⟩, .int .i64 0, .int .i64 (-((N : Int) + 1))] 76)) w1 := Kept.grown hgrow1 (fun r e => e)
       have hsa : (wx.alloc (Obj.cells #[.string ⟨#[]⟩, .int .i64 0, .int .i64 (-((N : Int) + 1))] 76)).heap.size = wx.heap.size + 1 := by simp
       have hLW1 : ∀ g', (Value.slice a1 (q + k) c1).ownBlock = some g' -> F g' \/ (Value.slice al q capl).ownBlock = some g' := fun g' e => by
        rcases HLW.out g' e with h | h
        ·exact .inr h
        ·exact .inl (HF.out _ (by omega))
       have hkx : Kept (fun b => (Value.slice a1 (q + k) c1).ownBlock = some b) wx w1 := (hka.mono (fun _ _ h => h.elim)).trans hgk
       have hmark : ∀ x : Bk, MarkedB wx (fun g n' => (F g \/ (Value.slice al q capl).ownBlock = some g) /\ g ≠ w.heap.size /\ ((Value.slice a1 (q + k) c1).ownBlock = some g -> n' <= q + k)) x -> MarkedB w1 (fun g' n' => (F g' \/ (Value.slice al q capl).ownBlock = some g') /\ g' ≠ w.heap.size /\ ((Value.slice (some ⟨g, 0, none⟩) (q + k + 1) cp).ownBlock = some g' -> n' <= q + (k + 1))) x := fun x h => by
        refine ((h.kept hka (fun _ _ _ _ _ _ _ h => h) (fun _ _ _ _ _ hb h => ⟨h, hb.lt⟩) : MarkedB (wx.alloc (Obj.cells #[.string ⟨#[]⟩, .int .i64 0, .int .i64 (-((N : Int) + 1))] 76)) (fun g n' => ((F g \/ (Value.slice al q capl).ownBlock = some g) /\ g ≠ w.heap.size /\ ((Value.slice a1 (q + k) c1).ownBlock = some g -> n' <= q + k)) /\ g < wx.heap.size) x)).grown (S0 := sortT) (n0 := q + k) hgrow1 (by simp) (fun B' t' cs' e hb => ?_) (fun g' n' t' cs ht hb hG => ⟨hG.1.2.2, hG.1.1, hG.1.2.1, fun e => ?_⟩)
        ·obtain ⟨cs2, hcs2⟩ := row_obj (HLWX.out.alloc _) e
         obtain rfl := boxAt_type hb hcs2
         exact ⟨rfl, hkeep1.out B' cs' e hb⟩
        ·simp [Value.ownBlock] at e
         subst e
         rcases hat1 with h' | h'
         ·have := hG.1.2.2 h'
          omega
         ·have := hG.2
          omega
       refine ⟨k + 1, bs' ++ [((N : Int) + 1, .slice none 0 0, (Value.slice a1 (q + k) c1), .slice none 0 0)], by omega, by go_num, by simp [HBL'.out], by rw [<- Nat.add_assoc, markRow_snoc]; exact hown1, fun g' e => ?_, HBMX.out.kept hkx (fun e => ?_), ⟨vA2, HB2.out.kept hkx (row_ne HLWX.out HB2.out (by decide)), ?_, HKFB.out, HF2.out, fun x hx => ?_⟩, ?_⟩
       ·simp [Value.ownBlock] at e
        subst e
        rcases hat1 with h | h
        ·exact HLW.out _ h
        ·exact .inr (by omega)
       ·rcases HLW.out _ e with h | h
        ·have := HLT.out _ h
         omega
        ·omega
       ·rw [<- List.append_assoc, List.length_append, HNB.out]
        refine row_kept HR2.out hkx (fun g' hg' hx => ?_) (Nat.le_refl _)
        obtain ⟨cs1, h1⟩ := row_obj HR2.out hg'
        obtain ⟨cs2, h2⟩ := row_obj HLWX.out hx
        have := h1.symm.trans h2
        simp at this
       ·rw [<- List.append_assoc] at hx
        rcases List.mem_append.1 hx with hx | hx
        ·exact hmark _ ((HKM.out x hx).kept HK2.out (fun g n t cs ht hb _ => HT3.out g t cs ht hb) (fun _ _ _ _ _ _ h => h))
        ·simp only [List.mem_singleton] at hx
         subst hx
         have hnew : Marked sortT wx (fun g n' => (F g \/ (Value.slice al q capl).ownBlock = some g) /\ g ≠ w.heap.size /\ ((Value.slice a1 (q + k) c1).ownBlock = some g -> n' <= q + k)) (Value.slice a1 (q + k) c1) ((N : Int) + 1) := marked_of_row HLWX.out HMKL.out (by omega) (fun g' e => ⟨hLW1 g' e, fun h => by
          subst h
          rcases HLW.out _ e with h | h
          ·have := HLT.out _ h
           omega
          ·omega, fun _ => Nat.le_refl _⟩)
         have hnil : ∀ S : MarkSort, Marked S wx (fun g n' => (F g \/ (Value.slice al q capl).ownBlock = some g) /\ g ≠ w.heap.size /\ ((Value.slice a1 (q + k) c1).ownBlock = some g -> n' <= q + k)) (.slice none 0 0) ((N : Int) + 1) := fun S => Marked.nil S _ _ _ (by omega) (by omega)
         exact hmark _ (by first | exact ⟨hnew, hnil _, hnil _⟩ | exact ⟨hnil _, hnew, hnil _⟩ | exact ⟨hnil _, hnil _, hnew⟩)
       ·exact (HKF.out.trans (HK2.out.mono (fun g _ h => by
         rcases h with rfl | h
         ·exact HKFB.out
         ·exact HKA.out _ h))).trans (hkx.mono (fun g _ h => hLW1 g h))
      case measure => simp [intOf]; omega
    ·obtain rfl : k = 4 := by omega
     go_wp2_with fail
     go_end0
     have hc : ((N + 1 : Nat) : Int) = (N : Int) + 1 := by omega
     refine ⟨rfl, bs', HBL'.out, ?_, ?_⟩
     ·rw [hc]
      exact ⟨vA', HKB.out, by rw [HNB.out]; exact HKRA.out, HKFB.out, HKA.out, fun x hx => (HKM.out x hx).kept (Kept.refl (fun _ => False) _) (fun _ _ _ _ _ _ _ h => h) (fun _ _ _ _ _ _ h => h.1)⟩
     ·exact (HKV.out.mono (fun g _ h => by subst h; exact .inl HFB.out)).trans HKF.out
theorem heldT : Tryz.prog.stoodInHeld 76 = false := by kernel_rfl
theorem guardT : Tryz.prog.eqGuardType Tryz.prog.depth 76 = false := by kernel_rfl
set_option maxHeartbeats 4000000 in
set_option maxRecDepth 100000 in
theorem likeT_calls (va vb : Value) (l : List TaskS) (w : World) (ha : ListAt 3 taskEnc w va l) (hb : ListAt 3 taskEnc w vb l) (hl : l.length <= 9223372036854775806) :
  Calls Tryz.prog 39 #[va, vb] w fun e w' => e = .returned (.bool true) /\ Below w.heap.size w w' := by
 obtain ⟨a, cap, rfl, hca⟩ := ha
 obtain ⟨b, cap', rfl, hcb⟩ := hb
 have hs := heldT
 have hg := guardT
 go_enter Tryz.func39, Tryz.ntmps39
 go_wp2_with fail
 go_loopw [5] (fun i wr => ∃ k : Nat, k <= l.length /\ i = .int .i64 k /\ Below w.heap.size w wr) (fun i _ => l.length - (intOf i).toNat)
 case atStart => exact ⟨0, Nat.zero_le _, rfl, Below.refl _ _⟩
 case round =>
  obtain ⟨k, hk, rfl, hbw⟩ := hrel
  by_cases hlt : k < l.length
  ·obtain ⟨x, hx⟩ : ∃ x, l[k]? = some x := ⟨_, List.getElem?_eq_getElem hlt⟩
   obtain ⟨g, o, rfl, hgl, hc⟩ := hca k x hx
   obtain ⟨g', o', rfl, hgl', hd⟩ := hcb k x hx
   have c0 := (hbw.cell (p := ⟨g, o + k * 3 + 0, none⟩) hgl).trans (hc 0 _ rfl)
   have d0 := (hbw.cell (p := ⟨g', o' + k * 3 + 0, none⟩) hgl').trans (hd 0 _ rfl)
   have c1 := (hbw.cell (p := ⟨g, o + k * 3 + 1, none⟩) hgl).trans (hc 1 _ rfl)
   have d1 := (hbw.cell (p := ⟨g', o' + k * 3 + 1, none⟩) hgl').trans (hd 1 _ rfl)
   have c2 := (hbw.cell (p := ⟨g, o + k * 3 + 2, none⟩) hgl).trans (hc 2 _ rfl)
   have d2 := (hbw.cell (p := ⟨g', o' + k * 3 + 2, none⟩) hgl').trans (hd 2 _ rfl)
   rw [Nat.add_zero] at c0 d0
   have i1 : (0 : Int) <= (k : Int) := by omega
   have i2 : (k : Int) < (l.length : Int) := by omega
   clear hca hcb hc hd
   go_wp2_with fail
   go_quiet (fail)
   go_wp2_with fail
   go_roundw
   case rel => exact ⟨k + 1, by omega, by go_num, below_drewN hbw _⟩
   case measure => simp [intOf]; omega
  ·go_wp2_with fail
   go_ret
   exact ⟨rfl, hbw⟩
set_option maxHeartbeats 8000000 in
set_option maxRecDepth 100000 in
theorem takeT_calls (F : Nat -> Prop) (B N came : Nat) (lv : Value) (l : List TaskS) (w : World) (hI : BooksOK F w B N came)
  (hl : w.ownsRow 0 76 3 lv l.length (l.flatMap taskEnc)) (hlF : ∀ g, lv.ownBlock = some g -> ¬ F g) (hn : l.length <= 1000000) (hN : N <= 300000000000) (hcm : came <= 300000000000) :
  Calls Tryz.prog 40 #[.pointer (some ⟨B, 0, none⟩), lv] w fun e w' => e = .returned (.tuple #[]) /\ ∃ N', N' <= N + 2 /\ BooksOK (fun b => F b \/ w.heap.size <= b \/ lv.ownBlock = some b) w' B N' (came + 1) /\ Kept (fun b => F b \/ lv.ownBlock = some b) w w' := by
 obtain ⟨i1, hi1, hy0, hy1, hy2⟩ := info_parts infoTask
 obtain ⟨lab, kV, wV, kT, wT, kM, wM, lV, lT, lM, bs, hlab, hbs, hX, hKV, hKT, hKM⟩ := hI
 have HLAB : Hid (∀ b, lab b ≠ 0 -> F b) := hlab
 have HI : Hid (BooksX (fun b => lab b = 1) (fun b _ => lab b = 1) w B N came kV wV kT wT kM wM bs) := hX
 have HOV : Hid (KeptL 84 2 valEnc lab 2 3 w kV wV lV) := hKV
 have HOM : Hid (KeptL 140 15 msgEnc lab 6 7 w kM wM lM) := hKM
 have HK : Hid (KeptL 76 3 taskEnc lab 4 5 w kT wT lT) := hKT
 obtain ⟨hkr, hkl, hwr, hwl, hn0⟩ := hKT
 have HKR : Hid (w.ownsRow 0 76 3 kT lT.length (lT.flatMap taskEnc)) := hkr
 have HKL : Hid (∀ g, kT.ownBlock = some g -> lab g = 4) := hkl
 have HW : Hid (ListAt 3 taskEnc w wT lT) := list_of_row (sz := 3) (enc := taskEnc) (fun _ => rfl) hwr rfl
 have HL : Hid (w.ownsRow 0 76 3 lv l.length (l.flatMap taskEnc)) := hl
 have HLF : Hid (∀ g, lv.ownBlock = some g -> lab g = 0) := fun g e => by
  rcases Nat.eq_zero_or_pos (lab g) with h | h
  ·exact h
  ·exact absurd (hlab g (by omega)) (hlF g e)
 have HLF0 : Hid (∀ g, lv.ownBlock = some g -> ¬ F g) := hlF
 have HBS : Hid (bs.length = 4 * N) := hbs
 have hBl : B < w.heap.size := by obtain ⟨_, hb, _⟩ := hX; exact hb.lt
 have hFB0 : lab B = 1 := by obtain ⟨_, _, _, hb, _⟩ := hX; exact hb
 obtain ⟨al, cl, rfl⟩ := row_form hl
 clear hlab hX hl hlF hkr hkl hwr hwl hbs
 clear hKV
 clear hKM
 go_enter Tryz.func40, Tryz.ntmps40
 go_upto_region 2 with (at_builtin; refine wpList_append_row rfl _ _ _ rfl 76 i1 _ 3 32 Tryz.underlying52 hi1 hy0 hy1 hy2 rfl (by omega) rfl 0 (.slice al l.length cl) l.length (l.flatMap taskEnc) rfl HL.out (flat_one taskEnc_one _) (by unfold maxLen; omega) (by omega) ?_; intro wv w1 hrow1 hk1)
 obtain ⟨aw, cw, rfl⟩ := row_form hrow1
 have HI1 : Hid (BooksX (fun g => lab g = 1 /\ g < w.heap.size) (fun g _ => lab g = 1 /\ g < w.heap.size) w1 B N came kV wV kT wT kM wM bs) := HI.out.kept hk1 (fun _ _ _ h => h) (fun _ _ _ _ h => h) (fun _ h1 h => ⟨h, h1⟩) (fun _ _ h1 h => ⟨h, h1⟩)
 have HROW1 : Hid (w1.ownsRow w.heap.size 76 3 (.slice aw l.length cw) l.length (l.flatMap taskEnc)) := hrow1
 have HK1 : Hid (Kept (fun _ => False) w w1) := hk1
 have HKR1 : Hid (w1.ownsRow 0 76 3 kT lT.length (lT.flatMap taskEnc)) := row_kept HKR.out hk1 (fun _ _ h => h) (Nat.le_refl _)
 have HW1 : Hid (ListAt 3 taskEnc w1 wT lT) := HW.out.below (hk1.below (Nat.le_refl _) (fun _ h => h.elim)) (Nat.le_refl _)
 have hsz1 := hk1.size
 obtain ⟨vA1, hb1, -⟩ := HI1.out
 have b3 := hb1.cell (o := 5) rfl
 have b4 := hb1.cell (o := 6) rfl
 have HS : Hid (∀ W, Below w1.heap.size w1 W -> Calls Tryz.prog 39 #[kT, wT] W fun e w' => ∃ v, e = .returned v /\ v = .bool true /\ Below w1.heap.size w1 w') := fun W hW =>
  (likeT_calls _ _ lT W ((list_of_row (sz := 3) (enc := taskEnc) (fun _ => rfl) HKR1.out rfl).below hW (Nat.le_refl _)) (HW1.out.below hW (Nat.le_refl _)) (by omega)).mono fun e w' h => ⟨_, h.1, rfl, hW.trans (h.2.mono hW.size)⟩
 clear hrow1 hk1 hb1
 go_cut [5] (fun s wx => s = .bool true /\ Below w1.heap.size w1 wx)
 case first =>
  go_region_law (refine step_call2 (by rfl) 39 _ _ _ (by rfl) kT wT (by rfl) (by rfl) (enters_of Tryz.func39 (by kernel_rfl) rfl) (HS.out _ (by first | exact Below.refl _ _ | exact (Below.refl _ _).drew)) ?_; rintro v9 w9 ⟨rfl, hb9⟩)
  all_goals
   go_wp2_with fail
   go_meet
   case rel => exact ⟨rfl, by assumption⟩
 case rest =>
  obtain ⟨rfl, hb2⟩ := hcut
  rename World => w2
  have hsz2 := hb2.size
  have k2 : Kept (fun b => w1.heap.size <= b) w1 w2 := Kept.of_below hb2 (fun _ _ h => h)
  have HI2 : Hid (BooksX (fun g => (lab g = 1 /\ g < w.heap.size) \/ w2.heap.size <= g) (fun g _ => (lab g = 1 /\ g < w.heap.size) \/ w2.heap.size <= g) w2 B (N : Nat) came kV wV kT wT kM wM bs) := HI1.out.kept k2 (fun _ _ h1 h => by omega) (fun _ _ _ h1 h => by omega) (fun _ _ h => .inl h) (fun _ _ _ h => .inl h)
  have HROW2 : Hid (w2.ownsRow w.heap.size 76 3 (.slice aw l.length cw) l.length (l.flatMap taskEnc)) := row_kept HROW1.out k2 (fun g e h => by have := (HROW1.out.lt g e).2; omega) (Nat.le_refl _)
  have HKR2 : Hid (w2.ownsRow 0 76 3 kT lT.length (lT.flatMap taskEnc)) := row_kept HKR1.out k2 (fun g e h => by have := (HKR.out.lt g e).2; omega) (Nat.le_refl _)
  have HL2 : Hid (w2.ownsRow 0 76 3 (.slice al l.length cl) l.length (l.flatMap taskEnc)) := row_kept (row_kept HL.out HK1.out (fun _ _ h => h) (Nat.le_refl _)) k2 (fun g e h => by have := (HL.out.lt g e).2; omega) (Nat.le_refl _)
  have HK2 : Hid (Kept (fun b => w1.heap.size <= b) w1 w2) := k2
  obtain ⟨vA2, hbx2, -⟩ := HI2.out
  clear b3 b4
  have b3 := hbx2.cell (o := 5) rfl
  clear hbx2 k2
  go_upto_region 4 with (go_at_call 80; refine (markerT_calls (fun g => (lab g = 1 /\ g < w.heap.size) \/ w2.heap.size <= g) B N came kV wV kT wT kM wM kT bs lT.length (lT.flatMap taskEnc) w2 (fun b h => .inr h) HI2.out HKR2.out (fun g e h => by have h1 := HKR.out.lt g e; have h2 := HKL.out g e; omega) (by omega) (by rw [HBS.out]; omega) (by omega)).mono ?_; rintro e w3 ⟨rfl, bs3, hlen3, hI3, hk3⟩)
  have HK3 : Hid (Kept (fun g => ((lab g = 1 /\ g < w.heap.size) \/ w2.heap.size <= g) \/ kT.ownBlock = some g) w2 w3) := hk3
  have hsz3 := hk3.size
  have HLEN3 : Hid (bs3.length = 4) := hlen3
  have HROW3 : Hid (w3.ownsRow w.heap.size 76 3 (.slice aw l.length cw) l.length (l.flatMap taskEnc)) := row_kept HROW2.out HK3.out (fun g e h => by have h1 := HROW1.out.lt g e; rcases h with (⟨_, h⟩ | h) | h; omega; omega; have := HKR.out.lt g h; omega) (Nat.le_refl _)
  have HL3 : Hid (w3.ownsRow 0 76 3 (.slice al l.length cl) l.length (l.flatMap taskEnc)) := row_kept HL2.out HK3.out (fun g e h => by have h1 := HL.out.lt g e; have h2 := HLF.out g e; rcases h with (⟨h, _⟩ | h) | h; omega; omega; have h3 := HKL.out g h; omega) (Nat.le_refl _)
  obtain ⟨vA3, hb3, hr3, hFB3, hFA3, hm3⟩ := hI3
  have HB3 : Hid (BoxAt w3 B 56 (booksCells (N + 1 : Nat) came kV wV kT wT kM wM vA3)) := hb3
  have HR3 : Hid (w3.ownsRow 0 106 4 vA3 (bs ++ bs3).length (bkCells (bs ++ bs3))) := hr3
  have HFA3 : Hid (∀ g, vA3.ownBlock = some g -> ((lab g = 1 /\ g < w.heap.size) \/ w2.heap.size <= g) \/ kT.ownBlock = some g) := hFA3
  have HM3 : Hid (∀ x ∈ bs ++ bs3, MarkedB w3 (fun g _ => ((lab g = 1 /\ g < w.heap.size) \/ w2.heap.size <= g) \/ kT.ownBlock = some g) x) := hm3
  have HFB3 : Hid ((fun g => ((lab g = 1 /\ g < w.heap.size) \/ w2.heap.size <= g) \/ kT.ownBlock = some g) B) := hFB3
  clear hb3 hr3 hFB3 hFA3 hm3 hk3 hlen3 b3
  go_upto_region 5 with (go_at_call 39; refine (likeT_calls _ _ l w3 (list_of_row (sz := 3) (enc := taskEnc) (fun _ => rfl) HL3.out rfl) (list_of_row (sz := 3) (enc := taskEnc) (fun _ => rfl) HROW3.out rfl) (by omega)).mono ?_; rintro e w4 ⟨rfl, hb4⟩)
  have hsz4 := hb4.size
  have k4 : Kept (fun b => w3.heap.size <= b) w3 w4 := Kept.of_below hb4 (fun _ _ h => h)
  have HB4 : Hid (BoxAt w4 B 56 (booksCells (N + 1 : Nat) came kV wV kT wT kM wM vA3)) := HB3.out.kept k4 (by omega)
  have bx4 := HB4.out
  have c1 := bx4.cell (o := 1) rfl
  have c2 := bx4.cell (o := 2) rfl
  have c3 := bx4.cell (o := 5) rfl
  have c4 := bx4.cell (o := 6) rfl
  have f1 := bx4.frozen 1
  have f2 := bx4.frozen 2
  have f3 := bx4.frozen 5
  have f4 := bx4.frozen 6
  have HK4 : Hid (Kept (fun b => w3.heap.size <= b) w3 w4) := k4
  clear bx4 k4 hb4
  have cw1 : IntKind.i64.wrap ((came : Int) + 1) = (came : Int) + 1 := IntWalk.i64_in _ (by omega)
  have HNF : Hid (∀ g, g < w.heap.size -> ((((lab g = 1 /\ g < w.heap.size) \/ w2.heap.size <= g) \/ kT.ownBlock = some g) -> lab g = 1 \/ lab g = 4)) := fun g hg h => by
   rcases h with (h | h) | h
   ·exact .inl h.1
   ·omega
   ·exact .inr (HKL.out g h)
  have hc1 : ((N + 1 : Nat) : Int) = (N : Int) + 1 := by omega
  go_upto_region 9 with fail
  obtain ⟨W5, hW5⟩ : ∃ W5, (((w4.setCell ⟨B, 2, none⟩ (.bool false)).setCell ⟨B, 5, none⟩ (.slice none 0 0)).setCell ⟨B, 6, none⟩ (.slice none 0 0)).setCell ⟨B, 1, none⟩ (.int .i64 ((came : Int) + 1)) = W5 := ⟨_, rfl⟩
  have k5 : Kept (· = B) w4 W5 := by rw [<- hW5]; exact ((((Kept.refl _ _).setCell (.inl (by rfl)) _).setCell (.inl (by rfl)) _).setCell (.inl (by rfl)) _).setCell (.inl (by rfl)) _
  have bx5 : BoxAt W5 B 56 (booksCells (N + 1 : Nat) ((came : Int) + 1) kV wV (.slice none 0 0) (.slice none 0 0) kM wM vA3) := by rw [<- hW5]; exact (((HB4.out.setAt 2 _).setAt 5 _).setAt 6 _).setAt 1 _
  rw [hW5]
  clear hW5
  have k35 : Kept (fun b => b = B \/ w3.heap.size <= b) w3 W5 := (HK4.out.mono (fun _ _ h => .inr h)).trans (k5.mono (fun _ _ h => .inl h))
  have HK35 : Hid (Kept (fun b => b = B \/ w3.heap.size <= b) w3 W5) := k35
  have hsz5 := k35.size
  have HR5 : Hid (W5.ownsRow 0 106 4 vA3 (bs ++ bs3).length (bkCells (bs ++ bs3))) := by
   refine row_kept HR3.out k35 (fun g e h => ?_) (Nat.le_refl _)
   rcases h with rfl | h
   ·exact row_ne HR3.out HB3.out (by decide) e
   ·have := (HR3.out.lt g e).2
    omega
  have HM5 : Hid (∀ x ∈ bs ++ bs3, MarkedB W5 (fun g _ => ((lab g = 1 /\ g < w.heap.size) \/ w2.heap.size <= g) \/ kT.ownBlock = some g) x) := fun x hx => by
   refine (HM3.out x hx).kept k35 (fun g n t cs ht hb _ h => ?_) (fun g n t cs ht hb h => h)
   rcases h with rfl | h
   ·exact ht.ne.1 (boxAt_type hb HB3.out)
   ·have := hb.lt
    omega
  have HI5 : Hid (BooksX (fun g => ((lab g = 1 /\ g < w.heap.size) \/ w2.heap.size <= g) \/ kT.ownBlock = some g) (fun g _ => ((lab g = 1 /\ g < w.heap.size) \/ w2.heap.size <= g) \/ kT.ownBlock = some g) W5 B (N + 1 : Nat) ((came : Int) + 1) kV wV (.slice none 0 0) (.slice none 0 0) kM wM (bs ++ bs3)) := ⟨vA3, bx5, HR5.out, HFB3.out, HFA3.out, HM5.out⟩
  have HL5 : Hid (W5.ownsRow 0 76 3 (.slice al l.length cl) l.length (l.flatMap taskEnc)) := row_kept HL3.out k35 (fun g e h => by
   rcases h with rfl | h
   ·exact row_ne HL3.out HB3.out (by decide) e
   ·have := (HL3.out.lt g e).2
    omega) (Nat.le_refl _)
  have HROW5 : Hid (W5.ownsRow w.heap.size 76 3 (.slice aw l.length cw) l.length (l.flatMap taskEnc)) := row_kept HROW3.out k35 (fun g e h => by
   rcases h with rfl | h
   ·exact row_ne HROW3.out HB3.out (by decide) e
   ·have := (HROW3.out.lt g e).2
    omega) (Nat.le_refl _)
  have k12 : Kept (fun b => lab b = 1 \/ lab b = 4) w w2 := (HK1.out.mono (fun _ _ h => h.elim)).andThen HK2.out (fun b h1 h2 => by omega)
  have k15 : Kept (fun b => lab b = 1 \/ lab b = 4) w W5 := (k12.andThen HK3.out (fun b h1 h2 => HNF.out b h1 h2)).andThen k35 (fun b h1 h2 => by
   rcases h2 with rfl | h2
   ·exact .inl hFB0
   ·omega)
  have HK15 : Hid (Kept (fun b => lab b = 1 \/ lab b = 4) w W5) := k15
  have HLT1 : Hid (∀ g, (Value.slice aw l.length cw).ownBlock = some g -> w.heap.size <= g /\ g < w1.heap.size) := HROW1.out.lt
  have e1 := bx5.cell (o := 1) rfl
  clear k15 k12 k35 k5 c1 c2 c3 c4 f1 f2 f3 f4
  have hz : ∀ g, lab g ≠ 0 -> (Value.slice al l.length cl).ownBlock ≠ some g := fun g h e => h (HLF.out g e)
  by_cases hpar : (came + 1) % 2 = 0
  ·have hp1 : ((came : Int) + 1) % 2 = 0 := by omega
   have hp2 : ((came : Int) + 1).tmod 2 = 0 := by rw [Int.tmod_eq_emod_of_nonneg (by omega)]; exact hp1
   clear bx5
   go_wp2_with (go_at_call 80; refine (markerT_calls (fun g => ((lab g = 1 /\ g < w.heap.size) \/ w2.heap.size <= g) \/ kT.ownBlock = some g) B (N + 1) ((came : Int) + 1) kV wV (.slice none 0 0) (.slice none 0 0) kM wM (.slice al l.length cl) (bs ++ bs3) l.length (l.flatMap taskEnc) W5 (fun b h => .inl (.inr (by omega))) HI5.out HL5.out (fun g e h => by have h1 := HL.out.lt g e; have h2 := HLF.out g e; have h3 := HNF.out g h1.2 h; omega) (by omega) (by rw [List.length_append, HBS.out, HLEN3.out]; omega) (by omega)).mono ?_; rintro e w6 ⟨rfl, bs6, hlen6, hI6, hk6⟩)
   go_end0
   have hk : Kept (fun b => (lab b = 1 \/ lab b = 4) \/ (Value.slice al l.length cl).ownBlock = some b) w w6 := (HK15.out.mono (fun _ _ h => .inl h)).andThen hk6 (fun b h1 h2 => by
    rcases h2 with h2 | h2
    ·exact .inl (HNF.out b h1 h2)
    ·exact .inr h2)
   have hlab' : ∀ g, (((lab g = 1 /\ g < w.heap.size) \/ w2.heap.size <= g) \/ kT.ownBlock = some g) \/ (Value.slice al l.length cl).ownBlock = some g -> (fun b => if b < w.heap.size then (if lab b = 4 \/ (Value.slice al l.length cl).ownBlock = some b then 1 else lab b) else 1) g = 1 := fun g h => by
    dsimp only
    by_cases hg : g < w.heap.size
    ·rw [if_pos hg]
     rcases h with h | h
     ·rcases HNF.out g hg h with h | h
      ·split <;> simp [h]
      ·rw [if_pos (.inl h)]
     ·rw [if_pos (.inr h)]
    ·rw [if_neg hg]
   refine ⟨rfl, N + 2, by omega, ⟨fun b => if b < w.heap.size then (if lab b = 4 \/ (Value.slice al l.length cl).ownBlock = some b then 1 else lab b) else 1, kV, wV, .slice none 0 0, .slice none 0 0, kM, wM, lV, [], lM, (bs ++ bs3) ++ bs6, fun b hb => ?_, by rw [List.length_append, List.length_append, HBS.out, HLEN3.out, hlen6]; omega, hI6.kept (Kept.refl (fun _ => False) _) (fun _ _ _ h => h) (fun _ _ _ _ h => h) (fun g _ h => hlab' g h) (fun g _ _ h => hlab' g h), ?_, ?_, ?_⟩, ?_⟩
   ·dsimp only at hb
    by_cases hg : b < w.heap.size
    ·rw [if_pos hg] at hb
     by_cases h : lab b = 4 \/ (Value.slice al l.length cl).ownBlock = some b
     ·rcases h with h | h
      ·exact .inl (HLAB.out b (by omega))
      ·exact .inr (.inr h)
     ·rw [if_neg h] at hb
      exact .inl (HLAB.out b hb)
    ·exact .inr (.inl (by omega))
   all_goals first
    | exact KeptL.nil _ _ _ _ _ _ _
    | exact hk.mono (fun b _ h => h.elim (fun h => .inl (HLAB.out b (by omega))) .inr)
    | exact HOV.out.kept hk (fun g hg h => ⟨fun h' => h'.elim (fun h' => by omega) (hz g (by omega)), (if_pos hg).trans (if_neg (fun h' => h'.elim (fun h' => by omega) (hz g (by omega))))⟩)
    | exact HOM.out.kept hk (fun g hg h => ⟨fun h' => h'.elim (fun h' => by omega) (hz g (by omega)), (if_pos hg).trans (if_neg (fun h' => h'.elim (fun h' => by omega) (hz g (by omega))))⟩)
  ·have hp1 : ((came : Int) + 1) % 2 = 1 := by omega
   have hp2 : ((came : Int) + 1).tmod 2 = 1 := by rw [Int.tmod_eq_emod_of_nonneg (by omega)]; exact hp1
   have f3 := bx5.frozen 5
   have f4 := bx5.frozen 6
   have c3 := bx5.cell (o := 5) rfl
   have c4 := bx5.cell (o := 6) rfl
   have HBX5 : Hid (BoxAt W5 B 56 (booksCells (N + 1 : Nat) ((came : Int) + 1) kV wV (.slice none 0 0) (.slice none 0 0) kM wM vA3)) := bx5
   clear bx5
   go_wp2_with fail
   go_end0
   obtain ⟨W6, hW6⟩ : ∃ W6, (W5.setCell ⟨B, 5, none⟩ (.slice al l.length cl)).setCell ⟨B, 6, none⟩ (.slice aw l.length cw) = W6 := ⟨_, rfl⟩
   have k6 : Kept (· = B) W5 W6 := by rw [<- hW6]; exact ((Kept.refl _ _).setCell (.inl (by rfl)) _).setCell (.inl (by rfl)) _
   have bx6 : BoxAt W6 B 56 (booksCells (N + 1 : Nat) ((came : Int) + 1) kV wV (.slice al l.length cl) (.slice aw l.length cw) kM wM vA3) := by rw [<- hW6]; exact (HBX5.out.setAt 5 _).setAt 6 _
   rw [hW6]
   have hk : Kept (fun b => lab b = 1 \/ lab b = 4) w W6 := HK15.out.andThen k6 (fun b _ h => by subst h; exact .inl hFB0)
   have hlab' : ∀ g, ((lab g = 1 /\ g < w.heap.size) \/ w2.heap.size <= g) \/ kT.ownBlock = some g -> (fun b => if b < w.heap.size then (if lab b = 4 then 1 else if (Value.slice al l.length cl).ownBlock = some b then 4 else lab b) else if b < w1.heap.size then 5 else 1) g = 1 := fun g h => by
    dsimp only
    by_cases hg : g < w.heap.size
    ·rw [if_pos hg]
     rcases HNF.out g hg h with h' | h'
     ·rw [if_neg (by omega), if_neg (fun e => by have := HLF.out g e; omega)]; exact h'
     ·rw [if_pos h']
    ·rw [if_neg hg, if_neg]
     rcases h with (h | h) | h
     ·omega
     ·omega
     ·have := (HKR.out.lt g h).2
      omega
   have hnew : KeptL 76 3 taskEnc (fun b => if b < w.heap.size then (if lab b = 4 then 1 else if (Value.slice al l.length cl).ownBlock = some b then 4 else lab b) else if b < w1.heap.size then 5 else 1) 4 5 W6 (.slice al l.length cl) (.slice aw l.length cw) l := by
    refine ⟨row_kept HL5.out k6 (fun g e h => ?_) (Nat.le_refl _), fun g e => ?_, ownsRow_base (row_kept HROW5.out k6 (fun g e h => ?_) (Nat.le_refl _)) (Nat.zero_le _), fun g e => ?_, hn⟩
    ·subst h
     exact row_ne HL5.out HBX5.out (by decide) e
    ·have h1 := (HL.out.lt g e).2
     have h2 := HLF.out g e
     dsimp only
     rw [if_pos h1, if_neg (by omega), if_pos e]
    ·subst h
     exact row_ne HROW5.out HBX5.out (by decide) e
    ·have h1 := HLT1.out g e
     dsimp only
     rw [if_neg (by omega), if_pos h1.2]
   refine ⟨rfl, N + 1, by omega, ⟨fun b => if b < w.heap.size then (if lab b = 4 then 1 else if (Value.slice al l.length cl).ownBlock = some b then 4 else lab b) else if b < w1.heap.size then 5 else 1, kV, wV, .slice al l.length cl, .slice aw l.length cw, kM, wM, lV, l, lM, bs ++ bs3, fun b hb => ?_, by rw [List.length_append, HBS.out, HLEN3.out]; omega, ⟨vA3, bx6, row_kept HR5.out k6 (fun g e h => ?_) (Nat.le_refl _), hlab' B HFB3.out, fun g e => hlab' g (HFA3.out g e), fun x hx => (HM5.out x hx).kept k6 (fun g n t cs ht hb _ h => ?_) (fun g _ _ _ _ _ h => hlab' g h)⟩, ?_, ?_, ?_⟩, hk.mono (fun b _ h => .inl (HLAB.out b (by omega)))⟩
   ·dsimp only at hb
    by_cases hg : b < w.heap.size
    ·rw [if_pos hg] at hb
     by_cases h : lab b = 4
     ·exact .inl (HLAB.out b (by omega))
     ·rw [if_neg h] at hb
      by_cases h' : (Value.slice al l.length cl).ownBlock = some b
      ·exact .inr (.inr h')
      ·rw [if_neg h'] at hb
       exact .inl (HLAB.out b hb)
    ·exact .inr (.inl (by omega))
   ·subst h
    exact row_ne HR5.out HBX5.out (by decide) e
   ·subst h
    exact ht.ne.1 (boxAt_type hb HBX5.out)
   all_goals first
    | exact hnew
    | exact HOV.out.kept hk (fun g hg h => ⟨fun h' => by omega, (if_pos hg).trans ((if_neg (by omega)).trans (if_neg (hz g (by omega))))⟩)
    | exact HOM.out.kept hk (fun g hg h => ⟨fun h' => by omega, (if_pos hg).trans ((if_neg (by omega)).trans (if_neg (hz g (by omega))))⟩)
set_option maxHeartbeats 4000000 in
set_option maxRecDepth 100000 in
theorem markerM_calls (F : Nat -> Prop) (B : Nat) (N : Nat) (came : Int) (kV wV kT wT kM wM lv : Value) (bs : List Bk) (n : Nat) (xs : List Value) (w : World) (hF : ∀ b, w.heap.size <= b -> F b) (hI : BooksX F (fun g _ => F g) w B N came kV wV kT wT kM wM bs)
  (hl : w.ownsRow 0 140 15 lv n xs) (hlF : ∀ g, lv.ownBlock = some g -> ¬ F g) (hN : N <= 400000000000) (hbs : bs.length <= 1700000000000) (hn : n <= 1000000) :
  Calls Tryz.prog 82 #[.pointer (some ⟨B, 0, none⟩), lv] w fun e w' => e = .returned (.tuple #[]) /\ ∃ bs', bs'.length = 4 /\ BooksX (fun b => F b \/ lv.ownBlock = some b) (fun b _ => F b \/ lv.ownBlock = some b) w' B (N + 1 : Nat) came kV wV kT wT kM wM (bs ++ bs') /\ Kept (fun b => F b \/ lv.ownBlock = some b) w w' := by
 obtain ⟨i0, hi, hz0, hz1, hz2⟩ := info_parts infoBook
 obtain ⟨i1, hi1, hy0, hy1, hy2⟩ := info_parts infoMessage
 obtain ⟨vA, hbB, hrA, hFB, hFA, hmk⟩ := hI
 have HMK : Hid (∀ x ∈ bs, MarkedB w (fun g _ => F g) x) := hmk
 have HF : Hid (∀ b, w.heap.size <= b -> F b) := hF
 have HLF : Hid (∀ g, lv.ownBlock = some g -> ¬ F g) := hlF
 have HFA : Hid (∀ g, vA.ownBlock = some g -> F g) := hFA
 have HL : Hid (w.ownsRow 0 140 15 lv n xs) := hl
 have HRA : Hid (w.ownsRow 0 106 4 vA bs.length (bkCells bs)) := hrA
 have hBl := hbB.lt
 have b0 := hbB.cell (o := 0) rfl
 have f0 := hbB.frozen 0
 clear hmk hF hlF hFA hl hrA
 go_enter Tryz.func82, Tryz.ntmps82
 have wr1 : IntKind.i64.wrap ((N : Int) + 1) = (N : Int) + 1 := IntWalk.i64_in _ (by omega)
 have wr2 : IntKind.i64.wrap (-((N : Int) + 1)) = (-((N : Int) + 1)) := IntWalk.i64_in _ (by omega)
 go_upto_region 2 with fail
 obtain ⟨V, hV⟩ : ∃ V, (w.setCell ⟨B, 0, none⟩ (.int .i64 ((N : Int) + 1))).alloc (Obj.cells #[.int .i64 0, .int .i64 0, .int .i64 (-((N : Int) + 1)), .int .i64 0, .string ⟨#[]⟩, .int .i64 0, .int .i64 0, .string ⟨#[]⟩, .int .i64 0, .bool false, .bool false, .int .i64 0, .int .i64 0, .int .i64 0, .int .i64 0] 140) = V := ⟨_, rfl⟩
 have bB : BoxAt V B 56 (booksCells ((N : Int) + 1) came kV wV kT wT kM wM vA) := by rw [<- hV]; exact (hbB.setAt 0 _).alloc _
 have bM : BoxAt V w.heap.size 140 #[.int .i64 0, .int .i64 0, .int .i64 (-((N : Int) + 1)), .int .i64 0, .string ⟨#[]⟩, .int .i64 0, .int .i64 0, .string ⟨#[]⟩, .int .i64 0, .bool false, .bool false, .int .i64 0, .int .i64 0, .int .i64 0, .int .i64 0] := by
  rw [<- hV]; have := BoxAt.new (w.setCell ⟨B, 0, none⟩ (.int .i64 ((N : Int) + 1))) 140 #[.int .i64 0, .int .i64 0, .int .i64 (-((N : Int) + 1)), .int .i64 0, .string ⟨#[]⟩, .int .i64 0, .int .i64 0, .string ⟨#[]⟩, .int .i64 0, .bool false, .bool false, .int .i64 0, .int .i64 0, .int .i64 0, .int .i64 0]
  simpa using this
 have kV0 : Kept (· = B) w V := by rw [<- hV]; exact ((Kept.refl _ _).setCell (.inl (by rfl)) _).trans (Kept.alloc _ _ _)
 have sV : V.heap.size = w.heap.size + 1 := by rw [<- hV]; simp
 rw [hV]
 clear hV b0 f0
 have hLB : lv.ownBlock ≠ some B := row_ne HL.out hbB (by decide)
 have hAB : vA.ownBlock ≠ some B := row_ne HRA.out hbB (by decide)
 have HLV : Hid (V.ownsRow 0 140 15 lv n xs) := row_kept HL.out kV0 (fun g e h => hLB (by rw [e, h])) (Nat.le_refl _)
 have HRV : Hid (V.ownsRow 0 106 4 vA bs.length (bkCells bs)) := row_kept HRA.out kV0 (fun g e h => hAB (by rw [e, h])) (Nat.le_refl _)
 have HLT : Hid (∀ g, lv.ownBlock = some g -> g < w.heap.size) := fun g e => (HL.out.lt g e).2
 have HBB : Hid (BoxAt V B 56 (booksCells ((N : Int) + 1) came kV wV kT wT kM wM vA)) := bB
 have HBM : Hid (BoxAt V w.heap.size 140 #[.int .i64 0, .int .i64 0, .int .i64 (-((N : Int) + 1)), .int .i64 0, .string ⟨#[]⟩, .int .i64 0, .int .i64 0, .string ⟨#[]⟩, .int .i64 0, .bool false, .bool false, .int .i64 0, .int .i64 0, .int .i64 0, .int .i64 0]) := bM
 have HKV : Hid (Kept (· = B) w V) := kV0
 have HB0 : Hid (BoxAt w B 56 (booksCells N came kV wV kT wT kM wM vA)) := hbB
 have HFB : Hid (F B) := hFB
 have HLB : Hid (lv.ownBlock ≠ some B) := hLB
 have HAB : Hid (vA.ownBlock ≠ some B) := hAB
 clear bB bM kV0 hbB hFB hLB hAB
 have hlen : ∃ a cap, lv = .slice a n cap := by
  rcases HL.out.2 with ⟨rfl, rfl⟩ | ⟨g, cap, cur, rfl, _⟩
  ·exact ⟨_, _, rfl⟩
  ·exact ⟨_, _, rfl⟩
 obtain ⟨al, capl, hlv⟩ := hlen
 go_wp2_with fail
 have hmk : (sortM.el ((N : Int) + 1)).length = sortM.sz := rfl
 have HMKL : Hid ((sortM.el ((N : Int) + 1)).length = sortM.sz) := hmk
 clear hmk
 go_loopw [5] (fun iv wr => ∃ (q : Nat) (ys : List Value), q <= n /\ iv = .int .i64 q /\ wr.ownsRow 0 140 15 lv n ys /\ (∀ j i, j < q -> i < 15 -> ys[j * 15 + i]? = (sortM.el ((N : Int) + 1))[i]?) /\ Kept (fun b => lv.ownBlock = some b) V wr) (fun iv _ => n - (intOf iv).toNat)
 case atStart => exact ⟨0, xs, Nat.zero_le _, rfl, HLV.out, fun j i h => absurd h (by omega), Kept.refl _ _⟩
 case round =>
  obtain ⟨q, ys, hq, rfl, hrow, hys, hkw⟩ := hrel
  rename World => Wo
  have HROW : Hid (Wo.ownsRow 0 140 15 lv n ys) := hrow
  have HYS : Hid (∀ j i, j < q -> i < 15 -> ys[j * 15 + i]? = (sortM.el ((N : Int) + 1))[i]?) := hys
  have HKW : Hid (Kept (fun b => lv.ownBlock = some b) V Wo) := hkw
  have hszo := hkw.size
  have bMo := HBM.out.kept hkw (fun e => by have := HLT.out _ e; omega)
  have HBMO : Hid (BoxAt Wo w.heap.size 140 #[.int .i64 0, .int .i64 0, .int .i64 (-((N : Int) + 1)), .int .i64 0, .string ⟨#[]⟩, .int .i64 0, .int .i64 0, .string ⟨#[]⟩, .int .i64 0, .bool false, .bool false, .int .i64 0, .int .i64 0, .int .i64 0, .int .i64 0]) := bMo
  clear hrow hys hkw
  by_cases hlt : q < n
  ·obtain ⟨g, cap, hgf, -, -⟩ := World.ownsRow.form HROW.out (by omega)
   subst hgf
   have HSET := row_putAll (sortM.el ((N : Int) + 1)) ys (q * 15) Wo HROW.out (by rw [HMKL.out]; show q * 15 + 15 <= n * 15; omega)
   obtain ⟨cur, hcur, hcn⟩ : ∃ cur, BoxAt Wo g 140 cur /\ n * 15 <= cur.size := by
    rcases HROW.out.2 with ⟨h0, _⟩ | ⟨g', cap', cur, h0, hb, hcur, hnc, hcm, hcs, htk⟩
    ·cases h0
    ·cases h0
     exact ⟨cur, hcur, by rw [hcs]; omega⟩
   have hyl := HROW.out.1
   obtain ⟨v0, hv0⟩ := get_some (cs := cur) (i := q * 15 + 0) (by omega)
   have y0 := hcur.cell hv0
   have z0 := hcur.frozen (q * 15 + 0)
   have m0 := bMo.cell (o := 0) rfl
   obtain ⟨v1, hv1⟩ := get_some (cs := cur) (i := q * 15 + 1) (by omega)
   have y1 := hcur.cell hv1
   have z1 := hcur.frozen (q * 15 + 1)
   have m1 := bMo.cell (o := 1) rfl
   obtain ⟨v2, hv2⟩ := get_some (cs := cur) (i := q * 15 + 2) (by omega)
   have y2 := hcur.cell hv2
   have z2 := hcur.frozen (q * 15 + 2)
   have m2 := bMo.cell (o := 2) rfl
   obtain ⟨v3, hv3⟩ := get_some (cs := cur) (i := q * 15 + 3) (by omega)
   have y3 := hcur.cell hv3
   have z3 := hcur.frozen (q * 15 + 3)
   have m3 := bMo.cell (o := 3) rfl
   obtain ⟨v4, hv4⟩ := get_some (cs := cur) (i := q * 15 + 4) (by omega)
   have y4 := hcur.cell hv4
   have z4 := hcur.frozen (q * 15 + 4)
   have m4 := bMo.cell (o := 4) rfl
   obtain ⟨v5, hv5⟩ := get_some (cs := cur) (i := q * 15 + 5) (by omega)
   have y5 := hcur.cell hv5
   have z5 := hcur.frozen (q * 15 + 5)
   have m5 := bMo.cell (o := 5) rfl
   obtain ⟨v6, hv6⟩ := get_some (cs := cur) (i := q * 15 + 6) (by omega)
   have y6 := hcur.cell hv6
   have z6 := hcur.frozen (q * 15 + 6)
   have m6 := bMo.cell (o := 6) rfl
   obtain ⟨v7, hv7⟩ := get_some (cs := cur) (i := q * 15 + 7) (by omega)
   have y7 := hcur.cell hv7
   have z7 := hcur.frozen (q * 15 + 7)
   have m7 := bMo.cell (o := 7) rfl
   obtain ⟨v8, hv8⟩ := get_some (cs := cur) (i := q * 15 + 8) (by omega)
   have y8 := hcur.cell hv8
   have z8 := hcur.frozen (q * 15 + 8)
   have m8 := bMo.cell (o := 8) rfl
   obtain ⟨v9, hv9⟩ := get_some (cs := cur) (i := q * 15 + 9) (by omega)
   have y9 := hcur.cell hv9
   have z9 := hcur.frozen (q * 15 + 9)
   have m9 := bMo.cell (o := 9) rfl
   obtain ⟨v10, hv10⟩ := get_some (cs := cur) (i := q * 15 + 10) (by omega)
   have y10 := hcur.cell hv10
   have z10 := hcur.frozen (q * 15 + 10)
   have m10 := bMo.cell (o := 10) rfl
   obtain ⟨v11, hv11⟩ := get_some (cs := cur) (i := q * 15 + 11) (by omega)
   have y11 := hcur.cell hv11
   have z11 := hcur.frozen (q * 15 + 11)
   have m11 := bMo.cell (o := 11) rfl
   obtain ⟨v12, hv12⟩ := get_some (cs := cur) (i := q * 15 + 12) (by omega)
   have y12 := hcur.cell hv12
   have z12 := hcur.frozen (q * 15 + 12)
   have m12 := bMo.cell (o := 12) rfl
   obtain ⟨v13, hv13⟩ := get_some (cs := cur) (i := q * 15 + 13) (by omega)
   have y13 := hcur.cell hv13
   have z13 := hcur.frozen (q * 15 + 13)
   have m13 := bMo.cell (o := 13) rfl
   obtain ⟨v14, hv14⟩ := get_some (cs := cur) (i := q * 15 + 14) (by omega)
   have y14 := hcur.cell hv14
   have z14 := hcur.frozen (q * 15 + 14)
   have m14 := bMo.cell (o := 14) rfl
   have j1 : (0 : Int) <= (q : Int) := by omega
   have j2 : (q : Int) < (n : Int) := by omega
   rw [Nat.add_zero] at y0 z0
   clear hlv hcur bMo
   go_wp2_with fail
   go_roundw
   case rel =>
    refine ⟨q + 1, _, by omega, by go_num, HSET, fun j i hj hi => ?_, (kept_putAll (X := fun b => (Value.slice (some ⟨g, 0, none⟩) n cap).ownBlock = some b) (A := V) (g := g) (.inl rfl) (sortM.el ((N : Int) + 1)) (q * 15) Wo HKW.out : Kept (fun b => (Value.slice (some ⟨g, 0, none⟩) n cap).ownBlock = some b) V (putAll Wo g (q * 15) (sortM.el ((N : Int) + 1))))⟩
    rcases Nat.lt_or_ge j q with h | h
    ·rw [setAll_out _ _ _ _ (.inl (by omega))]
     exact HYS.out j i h hi
    ·obtain rfl : j = q := by omega
     exact setAll_in _ _ _ _ (by rw [HMKL.out]; exact hi) (by rw [HMKL.out, hyl]; show j * 15 + 15 <= n * 15; omega)
   case measure => simp [intOf]; omega
  ·obtain rfl : q = n := by omega
   have hym : ys = markRow sortM ((N : Int) + 1) q := markRow_eq sortM _ _ (by decide) HMKL.out HROW.out.1 HYS.out
   subst hym
   have hLo : ∀ g, lv.ownBlock = some g -> ∃ cs, BoxAt w g 140 cs := fun g e => row_obj HL.out e
   have HLO : Hid (∀ g, lv.ownBlock = some g -> ∃ cs, BoxAt w g 140 cs) := hLo
   clear bMo hLo
   subst hlv
   go_wp2_with fail
   have hFL : ∀ g, F g -> (Value.slice al q capl).ownBlock ≠ some g := fun g h e => HLF.out g e h
   have HFL : Hid (∀ g, F g -> (Value.slice al q capl).ownBlock ≠ some g) := hFL
   clear hFL
   go_loopw [1, 6] (fun lw kv wr => ∃ (k : Nat) (bs' : List Bk), k <= 4 /\ kv = .int .i64 k /\ bs'.length = k /\ wr.ownsRow 0 140 15 lw (q + k) (markRow sortM ((N : Int) + 1) (q + k)) /\ (∀ g, lw.ownBlock = some g -> (Value.slice al q capl).ownBlock = some g \/ w.heap.size < g) /\ BoxAt wr w.heap.size 140 #[.int .i64 0, .int .i64 0, .int .i64 (-((N : Int) + 1)), .int .i64 0, .string ⟨#[]⟩, .int .i64 0, .int .i64 0, .string ⟨#[]⟩, .int .i64 0, .bool false, .bool false, .int .i64 0, .int .i64 0, .int .i64 0, .int .i64 0] /\ BooksX (fun b => F b \/ (Value.slice al q capl).ownBlock = some b) (fun g n' => (F g \/ (Value.slice al q capl).ownBlock = some g) /\ g ≠ w.heap.size /\ (lw.ownBlock = some g -> n' <= q + k)) wr B ((N : Int) + 1) came kV wV kT wT kM wM (bs ++ bs') /\ Kept (fun b => F b \/ (Value.slice al q capl).ownBlock = some b) V wr) (fun _ kv _ => 4 - (intOf kv).toNat)
   case atStart =>
    refine ⟨0, [], by omega, rfl, rfl, HROW.out, fun g e => .inl e, HBMO.out, ⟨vA, HBB.out.kept HKW.out HLB.out, by rw [List.append_nil]; exact row_kept HRV.out HKW.out (fun g e h => HFL.out g (HFA.out g e) h) (Nat.le_refl _), .inl HFB.out, fun g e => .inl (HFA.out g e), fun x hx => ?_⟩, HKW.out.mono (fun _ _ h => .inr h)⟩
    ·rw [List.append_nil] at hx
     refine (HMK.out x hx).kept ((HKV.out.mono (Y := fun b => b = B \/ (Value.slice al q capl).ownBlock = some b) (fun _ _ h => .inl h)).trans (HKW.out.mono (fun _ _ h => .inr h))) (fun g n t cs ht hb hf hX => ?_) (fun g n t cs ht hb hf => ⟨.inl hf, by have := hb.lt; omega, fun e => absurd e (HFL.out g hf)⟩)
     rcases hX with rfl | h
     ·exact ht.ne.1 (boxAt_type hb HB0.out)
     ·exact HFL.out g hf h
   case round =>
    obtain ⟨k, bs', hk, rfl, hbl, hrw, hlw, hbm, hbk, hkF⟩ := hrel
    rename World => Wr
    obtain ⟨a1, c1, rfl⟩ := row_form hrw
    obtain ⟨vA', kbB, kra, kfB, kfA, kmk⟩ := hbk
    have HBL' : Hid (bs'.length = k) := hbl
    have HRW : Hid (Wr.ownsRow 0 140 15 (Value.slice a1 (q + k) c1) (q + k) (markRow sortM ((N : Int) + 1) (q + k))) := hrw
    obtain ⟨nb, hnb⟩ : ∃ nb, (bs ++ bs').length = nb := ⟨_, rfl⟩
    have hnb2 : nb <= 1700000000004 := by rw [<- hnb, List.length_append]; omega
    rw [hnb] at kra
    have HNB : Hid ((bs ++ bs').length = nb) := hnb
    have HLW : Hid (∀ g, (Value.slice a1 (q + k) c1).ownBlock = some g -> (Value.slice al q capl).ownBlock = some g \/ w.heap.size < g) := hlw
    have HKA : Hid (∀ g, vA'.ownBlock = some g -> F g \/ (Value.slice al q capl).ownBlock = some g) := kfA
    have HKM : Hid (∀ x ∈ bs ++ bs', MarkedB Wr (fun g n' => (F g \/ (Value.slice al q capl).ownBlock = some g) /\ g ≠ w.heap.size /\ ((Value.slice a1 (q + k) c1).ownBlock = some g -> n' <= q + k)) x) := kmk
    have HKFB : Hid (F B \/ (Value.slice al q capl).ownBlock = some B) := kfB
    have HKF : Hid (Kept (fun b => F b \/ (Value.slice al q capl).ownBlock = some b) V Wr) := hkF
    have HKRA : Hid (Wr.ownsRow 0 106 4 vA' nb (bkCells (bs ++ bs'))) := kra
    have HKB : Hid (BoxAt Wr B 56 (booksCells ((N : Int) + 1) came kV wV kT wT kM wM vA')) := kbB
    have HBM2 : Hid (BoxAt Wr w.heap.size 140 #[.int .i64 0, .int .i64 0, .int .i64 (-((N : Int) + 1)), .int .i64 0, .string ⟨#[]⟩, .int .i64 0, .int .i64 0, .string ⟨#[]⟩, .int .i64 0, .bool false, .bool false, .int .i64 0, .int .i64 0, .int .i64 0, .int .i64 0]) := hbm
    have hNE : vA'.ownBlock ≠ some B := row_ne kra kbB (by decide)
    have HNE : Hid (vA'.ownBlock ≠ some B) := hNE
    have hszr := hkF.size
    have hBr := kbB.lt
    have d0 := kbB.cell (o := 0) rfl
    have d9 := kbB.cell (o := 9) rfl
    have e9 := kbB.frozen 9
    clear hbl hnb hrw hlw hbm kbB kra kfB kfA kmk hkF hNE
    by_cases hk4 : k < 4
    ·have r1 : (k : Int) < 4 := by omega
     go_upto_region 9 with fail
     go_cut [1] (fun lx wx => lx = Value.slice a1 (q + k) c1 /\ ∃ vA2, BoxAt wx B 56 (booksCells ((N : Int) + 1) came kV wV kT wT kM wM vA2) /\ wx.ownsRow 0 106 4 vA2 (nb + 1) (bkCells ((bs ++ bs') ++ [((N : Int) + 1, .slice none 0 0, .slice none 0 0, (Value.slice a1 (q + k) c1))])) /\ (∀ g, vA2.ownBlock = some g -> F g \/ (Value.slice al q capl).ownBlock = some g) /\ Kept (fun b => b = B \/ vA'.ownBlock = some b) Wr wx)
     case first =>
      go_region_law (refine step_append_lies _ (by rfl) _ _ _ (by rfl) 0 106 i0 _ 4 80 Tryz.underlying54 hi hz0 hz1 hz2 rfl (by omega) vA' nb (bkCells (bs ++ bs')) (by rfl) ((HKRA.out.alloc _).drew) ⟨Wr.heap.size, 0, none⟩ 1 1 [.int .i64 ((N : Int) + 1), .slice none 0 0, .slice none 0 0, (Value.slice a1 (q + k) c1)] (by rfl) (by rfl) (World.news_of_block (cs := #[.int .i64 ((N : Int) + 1), .slice none 0 0, .slice none 0 0, (Value.slice a1 (q + k) c1)]) (t := 106) (fr := (0, 0)) (heap_alloc_new Wr _)) (by simp [Value.oneCell']) (by omega) (by unfold maxLen; omega) (by omega) (by simp) (Wr.heap.size + 1) (by simp) ?_; intro g cp w1 hown1 hgrow hat hlt; have hbx : BoxAt w1 B 56 (booksCells ((N : Int) + 1) came kV wV kT wT kM wM vA') := (hgrow.block B (by simp; omega) (fun e => HNE.out e.symm)).trans (HKB.out.alloc _); have c9 := hbx.cell (o := 9) rfl; have f9 := hbx.frozen 9)
      all_goals
       go_wp2_with fail
       go_meet
       case rel =>
        have hne : g ≠ B := fun e => row_ne hown1 hbx (by decide) (by rw [e]; rfl)
        have hks : Kept (· = B) w1 (w1.setCell ⟨B, 9, none⟩ (.slice (some ⟨g, 0, none⟩) (nb + 1) cp)) := (Kept.refl _ _).setCell (.inl (by rfl)) _
        refine ⟨rfl, .slice (some ⟨g, 0, none⟩) (nb + 1) cp, hbx.setAt 9 _, ?_, fun g' hg' => ?_, ?_⟩
        ·rw [bkCells_snoc]
         exact row_kept hown1 hks (fun g' hg' hx => hne (by simp [Value.ownBlock] at hg'; omega)) (Nat.le_refl _)
        ·simp [Value.ownBlock] at hg'
         subst hg'
         rcases hat with h | h
         ·exact HKA.out _ h
         ·exact .inl (HF.out _ (by omega))
        ·have k1 : Kept (fun b => vA'.ownBlock = some b) (Wr.alloc (Obj.cells #[.int .i64 ((N : Int) + 1), .slice none 0 0, .slice none 0 0, (Value.slice a1 (q + k) c1)] 106)) w1 := by
          have := Kept.grown hgrow (X := fun b => vA'.ownBlock = some b) (fun r e => e)
          exact ⟨this.os, this.tape, this.output, this.size, this.block⟩
         exact ((Kept.alloc _ _ _).trans (k1.mono (fun _ _ h => .inr h))).trans (hks.mono (fun _ _ h => .inl h))
     case rest =>
      obtain ⟨rfl, vA2, hb2, hr2, hf2, hk2⟩ := hcut
      rename World => wx
      have HB2 : Hid (BoxAt wx B 56 (booksCells ((N : Int) + 1) came kV wV kT wT kM wM vA2)) := hb2
      have HR2 : Hid (wx.ownsRow 0 106 4 vA2 (nb + 1) (bkCells ((bs ++ bs') ++ [((N : Int) + 1, .slice none 0 0, .slice none 0 0, (Value.slice a1 (q + k) c1))]))) := hr2
      have HF2 : Hid (∀ g, vA2.ownBlock = some g -> F g \/ (Value.slice al q capl).ownBlock = some g) := hf2
      have HK2 : Hid (Kept (fun b => b = B \/ vA'.ownBlock = some b) Wr wx) := hk2
      have HT3 : Hid (∀ g t cs, Sorted3 t -> BoxAt Wr g t cs -> ¬ (g = B \/ vA'.ownBlock = some g)) := fun g t cs ht hg hx => by
       rcases hx with rfl | h
       ·exact ht.ne.1 (boxAt_type hg HKB.out)
       ·obtain ⟨cs2, hcs2⟩ := row_obj HKRA.out h
        exact ht.ne.2 (boxAt_type hg hcs2)
      have HT : Hid (∀ g cs, BoxAt Wr g 140 cs -> ¬ (g = B \/ vA'.ownBlock = some g)) := fun g cs hg => HT3.out g _ cs (by unfold Sorted3; decide) hg
      have hlwx : wx.ownsRow 0 140 15 (Value.slice a1 (q + k) c1) (q + k) (markRow sortM ((N : Int) + 1) (q + k)) := row_kept HRW.out hk2 (fun g e => by obtain ⟨cs2, hcs2⟩ := row_obj HRW.out e; exact HT.out g cs2 hcs2) (Nat.le_refl _)
      have HLWX : Hid (wx.ownsRow 0 140 15 (Value.slice a1 (q + k) c1) (q + k) (markRow sortM ((N : Int) + 1) (q + k))) := hlwx
      have bmx : BoxAt wx w.heap.size 140 #[.int .i64 0, .int .i64 0, .int .i64 (-((N : Int) + 1)), .int .i64 0, .string ⟨#[]⟩, .int .i64 0, .int .i64 0, .string ⟨#[]⟩, .int .i64 0, .bool false, .bool false, .int .i64 0, .int .i64 0, .int .i64 0, .int .i64 0] := HBM2.out.kept hk2 (HT.out _ _ HBM2.out)
      have HBMX : Hid (BoxAt wx w.heap.size 140 #[.int .i64 0, .int .i64 0, .int .i64 (-((N : Int) + 1)), .int .i64 0, .string ⟨#[]⟩, .int .i64 0, .int .i64 0, .string ⟨#[]⟩, .int .i64 0, .bool false, .bool false, .int .i64 0, .int .i64 0, .int .i64 0, .int .i64 0]) := bmx
      have m0 := bmx.cell (o := 0) rfl
      have m1 := bmx.cell (o := 1) rfl
      have m2 := bmx.cell (o := 2) rfl
      have m3 := bmx.cell (o := 3) rfl
      have m4 := bmx.cell (o := 4) rfl
      have m5 := bmx.cell (o := 5) rfl
      have m6 := bmx.cell (o := 6) rfl
      have m7 := bmx.cell (o := 7) rfl
      have m8 := bmx.cell (o := 8) rfl
      have m9 := bmx.cell (o := 9) rfl
      have m10 := bmx.cell (o := 10) rfl
      have m11 := bmx.cell (o := 11) rfl
      have m12 := bmx.cell (o := 12) rfl
      have m13 := bmx.cell (o := 13) rfl
      have m14 := bmx.cell (o := 14) rfl
      have hszx := hk2.size
      have hqk : q + k <= 1000004 := by omega
      clear hb2 hr2 hf2 hk2 hlwx bmx
      go_wp2_with (at_builtin; refine wpList_append_keeps rfl _ _ _ rfl 0 140 i1 _ 15 128 Tryz.underlying53 hi1 hy0 hy1 hy2 rfl (by omega) (Value.slice a1 (q + k) c1) (q + k) (markRow sortM ((N : Int) + 1) (q + k)) rfl (HLWX.out.alloc _) ⟨wx.heap.size, 0, none⟩ 1 1 [.int .i64 0, .int .i64 0, .int .i64 (-((N : Int) + 1)), .int .i64 0, .string ⟨#[]⟩, .int .i64 0, .int .i64 0, .string ⟨#[]⟩, .int .i64 0, .bool false, .bool false, .int .i64 0, .int .i64 0, .int .i64 0, .int .i64 0] rfl rfl (World.news_of_block (cs := #[.int .i64 0, .int .i64 0, .int .i64 (-((N : Int) + 1)), .int .i64 0, .string ⟨#[]⟩, .int .i64 0, .int .i64 0, .string ⟨#[]⟩, .int .i64 0, .bool false, .bool false, .int .i64 0, .int .i64 0, .int .i64 0, .int .i64 0]) (t := 140) (fr := (0, 0)) (heap_alloc_new wx _)) (by simp [Value.oneCell']) (by omega) (by unfold maxLen; omega) (by omega) (Nat.zero_le _) ?_; intro g cp w1 hown1 hgrow1 hat1 hkeep1)
      go_roundw
      case rel =>
       have hka : Kept (fun _ => False) wx (wx.alloc (Obj.cells #[.int .i64 0, .int .i64 0, .int .i64 (-((N : Int) + 1)), .int .i64 0, .string ⟨#[]⟩, .int .i64 0, .int .i64 0, .string ⟨#[]⟩, .int .i64 0, .bool false, .bool false, .int .i64 0, .int .i64 0, .int .i64 0, .int .i64 0] 140)) := Kept.alloc _ _ _
       have hgk : Kept (fun b => (Value.slice a1 (q + k) c1).ownBlock = some b) (wx.alloc (Obj.cells #[.int .i64 0, .int .i64 0, .int .i64 (-((N : Int) + 1)), .int .i64 0, .string ⟨#[]⟩, .int .i64 0, .int .i64 0, .string ⟨#[]⟩, .int .i64 0, .bool false, .bool false, .int .i64 0, .int .i64 0, .int .i64 0, .int .i64 0] 140)) w1 := Kept.grown hgrow1 (fun r e => e)
       have hsa : (wx.alloc (Obj.cells #[.int .i64 0, .int .i64 0, .int .i64 (-((N : Int) + 1)), .int .i64 0, .string ⟨#[]⟩, .int .i64 0, .int .i64 0, .string ⟨#[]⟩, .int .i64 0, .bool false, .bool false, .int .i64 0, .int .i64 0, .int .i64 0, .int .i64 0] 140)).heap.size = wx.heap.size + 1 := by simp
       have hLW1 : ∀ g', (Value.slice a1 (q + k) c1).ownBlock = some g' -> F g' \/ (Value.slice al q capl).ownBlock = some g' := fun g' e => by
        rcases HLW.out g' e with h | h
        ·exact .inr h
        ·exact .inl (HF.out _ (by omega))
       have hkx : Kept (fun b => (Value.slice a1 (q + k) c1).ownBlock = some b) wx w1 := (hka.mono (fun _ _ h => h.elim)).trans hgk
       have hmark : ∀ x : Bk, MarkedB wx (fun g n' => (F g \/ (Value.slice al q capl).ownBlock = some g) /\ g ≠ w.heap.size /\ ((Value.slice a1 (q + k) c1).ownBlock = some g -> n' <= q + k)) x -> MarkedB w1 (fun g' n' => (F g' \/ (Value.slice al q capl).ownBlock = some g') /\ g' ≠ w.heap.size /\ ((Value.slice (some ⟨g, 0, none⟩) (q + k + 1) cp).ownBlock = some g' -> n' <= q + (k + 1))) x := fun x h => by
        refine ((h.kept hka (fun _ _ _ _ _ _ _ h => h) (fun _ _ _ _ _ hb h => ⟨h, hb.lt⟩) : MarkedB (wx.alloc (Obj.cells #[.int .i64 0, .int .i64 0, .int .i64 (-((N : Int) + 1)), .int .i64 0, .string ⟨#[]⟩, .int .i64 0, .int .i64 0, .string ⟨#[]⟩, .int .i64 0, .bool false, .bool false, .int .i64 0, .int .i64 0, .int .i64 0, .int .i64 0] 140)) (fun g n' => ((F g \/ (Value.slice al q capl).ownBlock = some g) /\ g ≠ w.heap.size /\ ((Value.slice a1 (q + k) c1).ownBlock = some g -> n' <= q + k)) /\ g < wx.heap.size) x)).grown (S0 := sortM) (n0 := q + k) hgrow1 (by simp) (fun B' t' cs' e hb => ?_) (fun g' n' t' cs ht hb hG => ⟨hG.1.2.2, hG.1.1, hG.1.2.1, fun e => ?_⟩)
        ·obtain ⟨cs2, hcs2⟩ := row_obj (HLWX.out.alloc _) e
         obtain rfl := boxAt_type hb hcs2
         exact ⟨rfl, hkeep1.out B' cs' e hb⟩
        ·simp [Value.ownBlock] at e
         subst e
         rcases hat1 with h' | h'
         ·have := hG.1.2.2 h'
          omega
         ·have := hG.2
          omega
       refine ⟨k + 1, bs' ++ [((N : Int) + 1, .slice none 0 0, .slice none 0 0, (Value.slice a1 (q + k) c1))], by omega, by go_num, by simp [HBL'.out], by rw [<- Nat.add_assoc, markRow_snoc]; exact hown1, fun g' e => ?_, HBMX.out.kept hkx (fun e => ?_), ⟨vA2, HB2.out.kept hkx (row_ne HLWX.out HB2.out (by decide)), ?_, HKFB.out, HF2.out, fun x hx => ?_⟩, ?_⟩
       ·simp [Value.ownBlock] at e
        subst e
        rcases hat1 with h | h
        ·exact HLW.out _ h
        ·exact .inr (by omega)
       ·rcases HLW.out _ e with h | h
        ·have := HLT.out _ h
         omega
        ·omega
       ·rw [<- List.append_assoc, List.length_append, HNB.out]
        refine row_kept HR2.out hkx (fun g' hg' hx => ?_) (Nat.le_refl _)
        obtain ⟨cs1, h1⟩ := row_obj HR2.out hg'
        obtain ⟨cs2, h2⟩ := row_obj HLWX.out hx
        have := h1.symm.trans h2
        simp at this
       ·rw [<- List.append_assoc] at hx
        rcases List.mem_append.1 hx with hx | hx
        ·exact hmark _ ((HKM.out x hx).kept HK2.out (fun g n t cs ht hb _ => HT3.out g t cs ht hb) (fun _ _ _ _ _ _ h => h))
        ·simp only [List.mem_singleton] at hx
         subst hx
         have hnew : Marked sortM wx (fun g n' => (F g \/ (Value.slice al q capl).ownBlock = some g) /\ g ≠ w.heap.size /\ ((Value.slice a1 (q + k) c1).ownBlock = some g -> n' <= q + k)) (Value.slice a1 (q + k) c1) ((N : Int) + 1) := marked_of_row HLWX.out HMKL.out (by omega) (fun g' e => ⟨hLW1 g' e, fun h => by
          subst h
          rcases HLW.out _ e with h | h
          ·have := HLT.out _ h
           omega
          ·omega, fun _ => Nat.le_refl _⟩)
         have hnil : ∀ S : MarkSort, Marked S wx (fun g n' => (F g \/ (Value.slice al q capl).ownBlock = some g) /\ g ≠ w.heap.size /\ ((Value.slice a1 (q + k) c1).ownBlock = some g -> n' <= q + k)) (.slice none 0 0) ((N : Int) + 1) := fun S => Marked.nil S _ _ _ (by omega) (by omega)
         exact hmark _ (by first | exact ⟨hnew, hnil _, hnil _⟩ | exact ⟨hnil _, hnew, hnil _⟩ | exact ⟨hnil _, hnil _, hnew⟩)
       ·exact (HKF.out.trans (HK2.out.mono (fun g _ h => by
         rcases h with rfl | h
         ·exact HKFB.out
         ·exact HKA.out _ h))).trans (hkx.mono (fun g _ h => hLW1 g h))
      case measure => simp [intOf]; omega
    ·obtain rfl : k = 4 := by omega
     go_wp2_with fail
     go_end0
     have hc : ((N + 1 : Nat) : Int) = (N : Int) + 1 := by omega
     refine ⟨rfl, bs', HBL'.out, ?_, ?_⟩
     ·rw [hc]
      exact ⟨vA', HKB.out, by rw [HNB.out]; exact HKRA.out, HKFB.out, HKA.out, fun x hx => (HKM.out x hx).kept (Kept.refl (fun _ => False) _) (fun _ _ _ _ _ _ _ h => h) (fun _ _ _ _ _ _ h => h.1)⟩
     ·exact (HKV.out.mono (fun g _ h => by subst h; exact .inl HFB.out)).trans HKF.out
set_option maxHeartbeats 8000000 in
set_option maxRecDepth 100000 in
theorem takeM_calls (F : Nat -> Prop) (B N came : Nat) (lv : Value) (l : List MsgS) (w : World) (hI : BooksOK F w B N came)
  (hl : w.ownsRow 0 140 15 lv l.length (l.flatMap msgEnc)) (hlF : ∀ g, lv.ownBlock = some g -> ¬ F g) (hn : l.length <= 1000000) (hN : N <= 300000000000) (hcm : came <= 300000000000) :
  Calls Tryz.prog 44 #[.pointer (some ⟨B, 0, none⟩), lv] w fun e w' => e = .returned (.tuple #[]) /\ ∃ N', N' <= N + 2 /\ BooksOK (fun b => F b \/ w.heap.size <= b \/ lv.ownBlock = some b) w' B N' (came + 1) /\ Kept (fun b => F b \/ lv.ownBlock = some b) w w' := by
 obtain ⟨i1, hi1, hy0, hy1, hy2⟩ := info_parts infoMessage
 obtain ⟨lab, kV, wV, kT, wT, kM, wM, lV, lT, lM, bs, hlab, hbs, hX, hKV, hKT, hKM⟩ := hI
 have HLAB : Hid (∀ b, lab b ≠ 0 -> F b) := hlab
 have HI : Hid (BooksX (fun b => lab b = 1) (fun b _ => lab b = 1) w B N came kV wV kT wT kM wM bs) := hX
 have HOV : Hid (KeptL 84 2 valEnc lab 2 3 w kV wV lV) := hKV
 have HOT : Hid (KeptL 76 3 taskEnc lab 4 5 w kT wT lT) := hKT
 have HK : Hid (KeptL 140 15 msgEnc lab 6 7 w kM wM lM) := hKM
 obtain ⟨hkr, hkl, hwr, hwl, hn0⟩ := hKM
 have HKR : Hid (w.ownsRow 0 140 15 kM lM.length (lM.flatMap msgEnc)) := hkr
 have HKL : Hid (∀ g, kM.ownBlock = some g -> lab g = 6) := hkl
 have HW : Hid (ListAt 15 msgEnc w wM lM) := list_of_row (sz := 15) (enc := msgEnc) (fun _ => rfl) hwr rfl
 have HL : Hid (w.ownsRow 0 140 15 lv l.length (l.flatMap msgEnc)) := hl
 have HLF : Hid (∀ g, lv.ownBlock = some g -> lab g = 0) := fun g e => by
  rcases Nat.eq_zero_or_pos (lab g) with h | h
  ·exact h
  ·exact absurd (hlab g (by omega)) (hlF g e)
 have HLF0 : Hid (∀ g, lv.ownBlock = some g -> ¬ F g) := hlF
 have HBS : Hid (bs.length = 4 * N) := hbs
 have hBl : B < w.heap.size := by obtain ⟨_, hb, _⟩ := hX; exact hb.lt
 have hFB0 : lab B = 1 := by obtain ⟨_, _, _, hb, _⟩ := hX; exact hb
 obtain ⟨al, cl, rfl⟩ := row_form hl
 clear hlab hX hl hlF hkr hkl hwr hwl hbs
 clear hKV
 clear hKT
 go_enter Tryz.func44, Tryz.ntmps44
 go_upto_region 2 with (at_builtin; refine wpList_append_row rfl _ _ _ rfl 140 i1 _ 15 128 Tryz.underlying53 hi1 hy0 hy1 hy2 rfl (by omega) rfl 0 (.slice al l.length cl) l.length (l.flatMap msgEnc) rfl HL.out (flat_one msgEnc_one _) (by unfold maxLen; omega) (by omega) ?_; intro wv w1 hrow1 hk1)
 obtain ⟨aw, cw, rfl⟩ := row_form hrow1
 have HI1 : Hid (BooksX (fun g => lab g = 1 /\ g < w.heap.size) (fun g _ => lab g = 1 /\ g < w.heap.size) w1 B N came kV wV kT wT kM wM bs) := HI.out.kept hk1 (fun _ _ _ h => h) (fun _ _ _ _ h => h) (fun _ h1 h => ⟨h, h1⟩) (fun _ _ h1 h => ⟨h, h1⟩)
 have HROW1 : Hid (w1.ownsRow w.heap.size 140 15 (.slice aw l.length cw) l.length (l.flatMap msgEnc)) := hrow1
 have HK1 : Hid (Kept (fun _ => False) w w1) := hk1
 have HKR1 : Hid (w1.ownsRow 0 140 15 kM lM.length (lM.flatMap msgEnc)) := row_kept HKR.out hk1 (fun _ _ h => h) (Nat.le_refl _)
 have HW1 : Hid (ListAt 15 msgEnc w1 wM lM) := HW.out.below (hk1.below (Nat.le_refl _) (fun _ h => h.elim)) (Nat.le_refl _)
 have hsz1 := hk1.size
 obtain ⟨vA1, hb1, -⟩ := HI1.out
 have b3 := hb1.cell (o := 7) rfl
 have b4 := hb1.cell (o := 8) rfl
 have HS : Hid (∀ W, Below w1.heap.size w1 W -> Calls Tryz.prog 43 #[kM, wM] W fun e w' => ∃ v, e = .returned v /\ v = .bool true /\ Below w1.heap.size w1 w') := fun W hW =>
  (likeM_calls _ _ lM W ((list_of_row (sz := 15) (enc := msgEnc) (fun _ => rfl) HKR1.out rfl).below hW (Nat.le_refl _)) (HW1.out.below hW (Nat.le_refl _)) (by omega)).mono fun e w' h => ⟨_, h.1, rfl, hW.trans (h.2.mono hW.size)⟩
 clear hrow1 hk1 hb1
 go_cut [5] (fun s wx => s = .bool true /\ Below w1.heap.size w1 wx)
 case first =>
  go_region_law (refine step_call2 (by rfl) 43 _ _ _ (by rfl) kM wM (by rfl) (by rfl) (enters_of Tryz.func43 (by kernel_rfl) rfl) (HS.out _ (by first | exact Below.refl _ _ | exact (Below.refl _ _).drew)) ?_; rintro v9 w9 ⟨rfl, hb9⟩)
  all_goals
   go_wp2_with fail
   go_meet
   case rel => exact ⟨rfl, by assumption⟩
 case rest =>
  obtain ⟨rfl, hb2⟩ := hcut
  rename World => w2
  have hsz2 := hb2.size
  have k2 : Kept (fun b => w1.heap.size <= b) w1 w2 := Kept.of_below hb2 (fun _ _ h => h)
  have HI2 : Hid (BooksX (fun g => (lab g = 1 /\ g < w.heap.size) \/ w2.heap.size <= g) (fun g _ => (lab g = 1 /\ g < w.heap.size) \/ w2.heap.size <= g) w2 B (N : Nat) came kV wV kT wT kM wM bs) := HI1.out.kept k2 (fun _ _ h1 h => by omega) (fun _ _ _ h1 h => by omega) (fun _ _ h => .inl h) (fun _ _ _ h => .inl h)
  have HROW2 : Hid (w2.ownsRow w.heap.size 140 15 (.slice aw l.length cw) l.length (l.flatMap msgEnc)) := row_kept HROW1.out k2 (fun g e h => by have := (HROW1.out.lt g e).2; omega) (Nat.le_refl _)
  have HKR2 : Hid (w2.ownsRow 0 140 15 kM lM.length (lM.flatMap msgEnc)) := row_kept HKR1.out k2 (fun g e h => by have := (HKR.out.lt g e).2; omega) (Nat.le_refl _)
  have HL2 : Hid (w2.ownsRow 0 140 15 (.slice al l.length cl) l.length (l.flatMap msgEnc)) := row_kept (row_kept HL.out HK1.out (fun _ _ h => h) (Nat.le_refl _)) k2 (fun g e h => by have := (HL.out.lt g e).2; omega) (Nat.le_refl _)
  have HK2 : Hid (Kept (fun b => w1.heap.size <= b) w1 w2) := k2
  obtain ⟨vA2, hbx2, -⟩ := HI2.out
  clear b3 b4
  have b3 := hbx2.cell (o := 7) rfl
  clear hbx2 k2
  go_upto_region 4 with (go_at_call 82; refine (markerM_calls (fun g => (lab g = 1 /\ g < w.heap.size) \/ w2.heap.size <= g) B N came kV wV kT wT kM wM kM bs lM.length (lM.flatMap msgEnc) w2 (fun b h => .inr h) HI2.out HKR2.out (fun g e h => by have h1 := HKR.out.lt g e; have h2 := HKL.out g e; omega) (by omega) (by rw [HBS.out]; omega) (by omega)).mono ?_; rintro e w3 ⟨rfl, bs3, hlen3, hI3, hk3⟩)
  have HK3 : Hid (Kept (fun g => ((lab g = 1 /\ g < w.heap.size) \/ w2.heap.size <= g) \/ kM.ownBlock = some g) w2 w3) := hk3
  have hsz3 := hk3.size
  have HLEN3 : Hid (bs3.length = 4) := hlen3
  have HROW3 : Hid (w3.ownsRow w.heap.size 140 15 (.slice aw l.length cw) l.length (l.flatMap msgEnc)) := row_kept HROW2.out HK3.out (fun g e h => by have h1 := HROW1.out.lt g e; rcases h with (⟨_, h⟩ | h) | h; omega; omega; have := HKR.out.lt g h; omega) (Nat.le_refl _)
  have HL3 : Hid (w3.ownsRow 0 140 15 (.slice al l.length cl) l.length (l.flatMap msgEnc)) := row_kept HL2.out HK3.out (fun g e h => by have h1 := HL.out.lt g e; have h2 := HLF.out g e; rcases h with (⟨h, _⟩ | h) | h; omega; omega; have h3 := HKL.out g h; omega) (Nat.le_refl _)
  obtain ⟨vA3, hb3, hr3, hFB3, hFA3, hm3⟩ := hI3
  have HB3 : Hid (BoxAt w3 B 56 (booksCells (N + 1 : Nat) came kV wV kT wT kM wM vA3)) := hb3
  have HR3 : Hid (w3.ownsRow 0 106 4 vA3 (bs ++ bs3).length (bkCells (bs ++ bs3))) := hr3
  have HFA3 : Hid (∀ g, vA3.ownBlock = some g -> ((lab g = 1 /\ g < w.heap.size) \/ w2.heap.size <= g) \/ kM.ownBlock = some g) := hFA3
  have HM3 : Hid (∀ x ∈ bs ++ bs3, MarkedB w3 (fun g _ => ((lab g = 1 /\ g < w.heap.size) \/ w2.heap.size <= g) \/ kM.ownBlock = some g) x) := hm3
  have HFB3 : Hid ((fun g => ((lab g = 1 /\ g < w.heap.size) \/ w2.heap.size <= g) \/ kM.ownBlock = some g) B) := hFB3
  clear hb3 hr3 hFB3 hFA3 hm3 hk3 hlen3 b3
  go_upto_region 5 with (go_at_call 43; refine (likeM_calls _ _ l w3 (list_of_row (sz := 15) (enc := msgEnc) (fun _ => rfl) HL3.out rfl) (list_of_row (sz := 15) (enc := msgEnc) (fun _ => rfl) HROW3.out rfl) (by omega)).mono ?_; rintro e w4 ⟨rfl, hb4⟩)
  have hsz4 := hb4.size
  have k4 : Kept (fun b => w3.heap.size <= b) w3 w4 := Kept.of_below hb4 (fun _ _ h => h)
  have HB4 : Hid (BoxAt w4 B 56 (booksCells (N + 1 : Nat) came kV wV kT wT kM wM vA3)) := HB3.out.kept k4 (by omega)
  have bx4 := HB4.out
  have c1 := bx4.cell (o := 1) rfl
  have c2 := bx4.cell (o := 2) rfl
  have c3 := bx4.cell (o := 7) rfl
  have c4 := bx4.cell (o := 8) rfl
  have f1 := bx4.frozen 1
  have f2 := bx4.frozen 2
  have f3 := bx4.frozen 7
  have f4 := bx4.frozen 8
  have HK4 : Hid (Kept (fun b => w3.heap.size <= b) w3 w4) := k4
  clear bx4 k4 hb4
  have cw1 : IntKind.i64.wrap ((came : Int) + 1) = (came : Int) + 1 := IntWalk.i64_in _ (by omega)
  have HNF : Hid (∀ g, g < w.heap.size -> ((((lab g = 1 /\ g < w.heap.size) \/ w2.heap.size <= g) \/ kM.ownBlock = some g) -> lab g = 1 \/ lab g = 6)) := fun g hg h => by
   rcases h with (h | h) | h
   ·exact .inl h.1
   ·omega
   ·exact .inr (HKL.out g h)
  have hc1 : ((N + 1 : Nat) : Int) = (N : Int) + 1 := by omega
  go_upto_region 9 with fail
  obtain ⟨W5, hW5⟩ : ∃ W5, (((w4.setCell ⟨B, 2, none⟩ (.bool false)).setCell ⟨B, 7, none⟩ (.slice none 0 0)).setCell ⟨B, 8, none⟩ (.slice none 0 0)).setCell ⟨B, 1, none⟩ (.int .i64 ((came : Int) + 1)) = W5 := ⟨_, rfl⟩
  have k5 : Kept (· = B) w4 W5 := by rw [<- hW5]; exact ((((Kept.refl _ _).setCell (.inl (by rfl)) _).setCell (.inl (by rfl)) _).setCell (.inl (by rfl)) _).setCell (.inl (by rfl)) _
  have bx5 : BoxAt W5 B 56 (booksCells (N + 1 : Nat) ((came : Int) + 1) kV wV kT wT (.slice none 0 0) (.slice none 0 0) vA3) := by rw [<- hW5]; exact (((HB4.out.setAt 2 _).setAt 7 _).setAt 8 _).setAt 1 _
  rw [hW5]
  clear hW5
  have k35 : Kept (fun b => b = B \/ w3.heap.size <= b) w3 W5 := (HK4.out.mono (fun _ _ h => .inr h)).trans (k5.mono (fun _ _ h => .inl h))
  have HK35 : Hid (Kept (fun b => b = B \/ w3.heap.size <= b) w3 W5) := k35
  have hsz5 := k35.size
  have HR5 : Hid (W5.ownsRow 0 106 4 vA3 (bs ++ bs3).length (bkCells (bs ++ bs3))) := by
   refine row_kept HR3.out k35 (fun g e h => ?_) (Nat.le_refl _)
   rcases h with rfl | h
   ·exact row_ne HR3.out HB3.out (by decide) e
   ·have := (HR3.out.lt g e).2
    omega
  have HM5 : Hid (∀ x ∈ bs ++ bs3, MarkedB W5 (fun g _ => ((lab g = 1 /\ g < w.heap.size) \/ w2.heap.size <= g) \/ kM.ownBlock = some g) x) := fun x hx => by
   refine (HM3.out x hx).kept k35 (fun g n t cs ht hb _ h => ?_) (fun g n t cs ht hb h => h)
   rcases h with rfl | h
   ·exact ht.ne.1 (boxAt_type hb HB3.out)
   ·have := hb.lt
    omega
  have HI5 : Hid (BooksX (fun g => ((lab g = 1 /\ g < w.heap.size) \/ w2.heap.size <= g) \/ kM.ownBlock = some g) (fun g _ => ((lab g = 1 /\ g < w.heap.size) \/ w2.heap.size <= g) \/ kM.ownBlock = some g) W5 B (N + 1 : Nat) ((came : Int) + 1) kV wV kT wT (.slice none 0 0) (.slice none 0 0) (bs ++ bs3)) := ⟨vA3, bx5, HR5.out, HFB3.out, HFA3.out, HM5.out⟩
  have HL5 : Hid (W5.ownsRow 0 140 15 (.slice al l.length cl) l.length (l.flatMap msgEnc)) := row_kept HL3.out k35 (fun g e h => by
   rcases h with rfl | h
   ·exact row_ne HL3.out HB3.out (by decide) e
   ·have := (HL3.out.lt g e).2
    omega) (Nat.le_refl _)
  have HROW5 : Hid (W5.ownsRow w.heap.size 140 15 (.slice aw l.length cw) l.length (l.flatMap msgEnc)) := row_kept HROW3.out k35 (fun g e h => by
   rcases h with rfl | h
   ·exact row_ne HROW3.out HB3.out (by decide) e
   ·have := (HROW3.out.lt g e).2
    omega) (Nat.le_refl _)
  have k12 : Kept (fun b => lab b = 1 \/ lab b = 6) w w2 := (HK1.out.mono (fun _ _ h => h.elim)).andThen HK2.out (fun b h1 h2 => by omega)
  have k15 : Kept (fun b => lab b = 1 \/ lab b = 6) w W5 := (k12.andThen HK3.out (fun b h1 h2 => HNF.out b h1 h2)).andThen k35 (fun b h1 h2 => by
   rcases h2 with rfl | h2
   ·exact .inl hFB0
   ·omega)
  have HK15 : Hid (Kept (fun b => lab b = 1 \/ lab b = 6) w W5) := k15
  have HLT1 : Hid (∀ g, (Value.slice aw l.length cw).ownBlock = some g -> w.heap.size <= g /\ g < w1.heap.size) := HROW1.out.lt
  have e1 := bx5.cell (o := 1) rfl
  clear k15 k12 k35 k5 c1 c2 c3 c4 f1 f2 f3 f4
  have hz : ∀ g, lab g ≠ 0 -> (Value.slice al l.length cl).ownBlock ≠ some g := fun g h e => h (HLF.out g e)
  by_cases hpar : (came + 1) % 2 = 0
  ·have hp1 : ((came : Int) + 1) % 2 = 0 := by omega
   have hp2 : ((came : Int) + 1).tmod 2 = 0 := by rw [Int.tmod_eq_emod_of_nonneg (by omega)]; exact hp1
   clear bx5
   go_wp2_with (go_at_call 82; refine (markerM_calls (fun g => ((lab g = 1 /\ g < w.heap.size) \/ w2.heap.size <= g) \/ kM.ownBlock = some g) B (N + 1) ((came : Int) + 1) kV wV kT wT (.slice none 0 0) (.slice none 0 0) (.slice al l.length cl) (bs ++ bs3) l.length (l.flatMap msgEnc) W5 (fun b h => .inl (.inr (by omega))) HI5.out HL5.out (fun g e h => by have h1 := HL.out.lt g e; have h2 := HLF.out g e; have h3 := HNF.out g h1.2 h; omega) (by omega) (by rw [List.length_append, HBS.out, HLEN3.out]; omega) (by omega)).mono ?_; rintro e w6 ⟨rfl, bs6, hlen6, hI6, hk6⟩)
   go_end0
   have hk : Kept (fun b => (lab b = 1 \/ lab b = 6) \/ (Value.slice al l.length cl).ownBlock = some b) w w6 := (HK15.out.mono (fun _ _ h => .inl h)).andThen hk6 (fun b h1 h2 => by
    rcases h2 with h2 | h2
    ·exact .inl (HNF.out b h1 h2)
    ·exact .inr h2)
   have hlab' : ∀ g, (((lab g = 1 /\ g < w.heap.size) \/ w2.heap.size <= g) \/ kM.ownBlock = some g) \/ (Value.slice al l.length cl).ownBlock = some g -> (fun b => if b < w.heap.size then (if lab b = 6 \/ (Value.slice al l.length cl).ownBlock = some b then 1 else lab b) else 1) g = 1 := fun g h => by
    dsimp only
    by_cases hg : g < w.heap.size
    ·rw [if_pos hg]
     rcases h with h | h
     ·rcases HNF.out g hg h with h | h
      ·split <;> simp [h]
      ·rw [if_pos (.inl h)]
     ·rw [if_pos (.inr h)]
    ·rw [if_neg hg]
   refine ⟨rfl, N + 2, by omega, ⟨fun b => if b < w.heap.size then (if lab b = 6 \/ (Value.slice al l.length cl).ownBlock = some b then 1 else lab b) else 1, kV, wV, kT, wT, .slice none 0 0, .slice none 0 0, lV, lT, [], (bs ++ bs3) ++ bs6, fun b hb => ?_, by rw [List.length_append, List.length_append, HBS.out, HLEN3.out, hlen6]; omega, hI6.kept (Kept.refl (fun _ => False) _) (fun _ _ _ h => h) (fun _ _ _ _ h => h) (fun g _ h => hlab' g h) (fun g _ _ h => hlab' g h), ?_, ?_, ?_⟩, ?_⟩
   ·dsimp only at hb
    by_cases hg : b < w.heap.size
    ·rw [if_pos hg] at hb
     by_cases h : lab b = 6 \/ (Value.slice al l.length cl).ownBlock = some b
     ·rcases h with h | h
      ·exact .inl (HLAB.out b (by omega))
      ·exact .inr (.inr h)
     ·rw [if_neg h] at hb
      exact .inl (HLAB.out b hb)
    ·exact .inr (.inl (by omega))
   all_goals first
    | exact KeptL.nil _ _ _ _ _ _ _
    | exact hk.mono (fun b _ h => h.elim (fun h => .inl (HLAB.out b (by omega))) .inr)
    | exact HOV.out.kept hk (fun g hg h => ⟨fun h' => h'.elim (fun h' => by omega) (hz g (by omega)), (if_pos hg).trans (if_neg (fun h' => h'.elim (fun h' => by omega) (hz g (by omega))))⟩)
    | exact HOT.out.kept hk (fun g hg h => ⟨fun h' => h'.elim (fun h' => by omega) (hz g (by omega)), (if_pos hg).trans (if_neg (fun h' => h'.elim (fun h' => by omega) (hz g (by omega))))⟩)
  ·have hp1 : ((came : Int) + 1) % 2 = 1 := by omega
   have hp2 : ((came : Int) + 1).tmod 2 = 1 := by rw [Int.tmod_eq_emod_of_nonneg (by omega)]; exact hp1
   have f3 := bx5.frozen 7
   have f4 := bx5.frozen 8
   have c3 := bx5.cell (o := 7) rfl
   have c4 := bx5.cell (o := 8) rfl
   have HBX5 : Hid (BoxAt W5 B 56 (booksCells (N + 1 : Nat) ((came : Int) + 1) kV wV kT wT (.slice none 0 0) (.slice none 0 0) vA3)) := bx5
   clear bx5
   go_wp2_with fail
   go_end0
   obtain ⟨W6, hW6⟩ : ∃ W6, (W5.setCell ⟨B, 7, none⟩ (.slice al l.length cl)).setCell ⟨B, 8, none⟩ (.slice aw l.length cw) = W6 := ⟨_, rfl⟩
   have k6 : Kept (· = B) W5 W6 := by rw [<- hW6]; exact ((Kept.refl _ _).setCell (.inl (by rfl)) _).setCell (.inl (by rfl)) _
   have bx6 : BoxAt W6 B 56 (booksCells (N + 1 : Nat) ((came : Int) + 1) kV wV kT wT (.slice al l.length cl) (.slice aw l.length cw) vA3) := by rw [<- hW6]; exact (HBX5.out.setAt 7 _).setAt 8 _
   rw [hW6]
   have hk : Kept (fun b => lab b = 1 \/ lab b = 6) w W6 := HK15.out.andThen k6 (fun b _ h => by subst h; exact .inl hFB0)
   have hlab' : ∀ g, ((lab g = 1 /\ g < w.heap.size) \/ w2.heap.size <= g) \/ kM.ownBlock = some g -> (fun b => if b < w.heap.size then (if lab b = 6 then 1 else if (Value.slice al l.length cl).ownBlock = some b then 6 else lab b) else if b < w1.heap.size then 7 else 1) g = 1 := fun g h => by
    dsimp only
    by_cases hg : g < w.heap.size
    ·rw [if_pos hg]
     rcases HNF.out g hg h with h' | h'
     ·rw [if_neg (by omega), if_neg (fun e => by have := HLF.out g e; omega)]; exact h'
     ·rw [if_pos h']
    ·rw [if_neg hg, if_neg]
     rcases h with (h | h) | h
     ·omega
     ·omega
     ·have := (HKR.out.lt g h).2
      omega
   have hnew : KeptL 140 15 msgEnc (fun b => if b < w.heap.size then (if lab b = 6 then 1 else if (Value.slice al l.length cl).ownBlock = some b then 6 else lab b) else if b < w1.heap.size then 7 else 1) 6 7 W6 (.slice al l.length cl) (.slice aw l.length cw) l := by
    refine ⟨row_kept HL5.out k6 (fun g e h => ?_) (Nat.le_refl _), fun g e => ?_, ownsRow_base (row_kept HROW5.out k6 (fun g e h => ?_) (Nat.le_refl _)) (Nat.zero_le _), fun g e => ?_, hn⟩
    ·subst h
     exact row_ne HL5.out HBX5.out (by decide) e
    ·have h1 := (HL.out.lt g e).2
     have h2 := HLF.out g e
     dsimp only
     rw [if_pos h1, if_neg (by omega), if_pos e]
    ·subst h
     exact row_ne HROW5.out HBX5.out (by decide) e
    ·have h1 := HLT1.out g e
     dsimp only
     rw [if_neg (by omega), if_pos h1.2]
   refine ⟨rfl, N + 1, by omega, ⟨fun b => if b < w.heap.size then (if lab b = 6 then 1 else if (Value.slice al l.length cl).ownBlock = some b then 6 else lab b) else if b < w1.heap.size then 7 else 1, kV, wV, kT, wT, .slice al l.length cl, .slice aw l.length cw, lV, lT, l, bs ++ bs3, fun b hb => ?_, by rw [List.length_append, HBS.out, HLEN3.out]; omega, ⟨vA3, bx6, row_kept HR5.out k6 (fun g e h => ?_) (Nat.le_refl _), hlab' B HFB3.out, fun g e => hlab' g (HFA3.out g e), fun x hx => (HM5.out x hx).kept k6 (fun g n t cs ht hb _ h => ?_) (fun g _ _ _ _ _ h => hlab' g h)⟩, ?_, ?_, ?_⟩, hk.mono (fun b _ h => .inl (HLAB.out b (by omega)))⟩
   ·dsimp only at hb
    by_cases hg : b < w.heap.size
    ·rw [if_pos hg] at hb
     by_cases h : lab b = 6
     ·exact .inl (HLAB.out b (by omega))
     ·rw [if_neg h] at hb
      by_cases h' : (Value.slice al l.length cl).ownBlock = some b
      ·exact .inr (.inr h')
      ·rw [if_neg h'] at hb
       exact .inl (HLAB.out b hb)
    ·exact .inr (.inl (by omega))
   ·subst h
    exact row_ne HR5.out HBX5.out (by decide) e
   ·subst h
    exact ht.ne.1 (boxAt_type hb HBX5.out)
   all_goals first
    | exact hnew
    | exact HOV.out.kept hk (fun g hg h => ⟨fun h' => by omega, (if_pos hg).trans ((if_neg (by omega)).trans (if_neg (hz g (by omega))))⟩)
    | exact HOT.out.kept hk (fun g hg h => ⟨fun h' => by omega, (if_pos hg).trans ((if_neg (by omega)).trans (if_neg (hz g (by omega))))⟩)
end Go.Proofs.YteahdfeialekbaaGreatDoor
