/-
  gleanlaw's twin.changes: one step of any kind that changes something, on the program and on the document's answer.
-/
import Derived.Test.YteahdfeialekbaaGreatDoorChange4
import Derived.Test.YteahdfeialekbaaGreatDoorChange7
import Derived.Test.YteahdfeialekbaaGreatDoorAsks
import Derived.Test.YteahdfeialekbaaGreatDoorChange9
import Derived.Test.YteahdfeialekbaaGreatDoorAsksM
import Derived.Test.YteahdfeialekbaaGreatDoorBegun
namespace Go.Proofs.YteahdfeialekbaaGreatDoor
open Go Go.RowKit
def Changing (k : Int) : Prop := k = 2 \/ k = 4 \/ k = 6 \/ k = 7 \/ k = 8 \/ k = 9
theorem changes_calls (k : Int) (hk : Changing k) (F : Nat -> Prop) (xp wp : Option Addr) (m : Nat) (hm : m <= 170000) (r W V i b c wk rm md pk pa : Int) (ka : Option Addr) (kn kc : Nat) (w : World) (ht : TwinAt F w xp wp m) :
  Calls Tryz.prog 22 #[.agg #[.pointer xp, .pointer wp], .agg (opV k r W V i b c wk rm md (.slice ka kn kc) pk pa)] w fun e w' => e = .returned (.bool true) /\ TwinAt (fun g => F g \/ w.heap.size <= g) w' xp wp (m + 1) /\ Kept F w w' := by
 rcases hk with rfl | rfl | rfl | rfl | rfl | rfl
 ·exact changes2_calls F xp wp m hm r W V i b c wk rm md pk pa ka kn kc w ht
 ·exact changes4_calls F xp wp m hm r W V i b c wk rm md pk pa ka kn kc w ht
 ·exact changes6_calls F xp wp m hm r W V i b c wk rm md pk pa ka kn kc w ht
 ·exact changes7_calls F xp wp m hm r W V i b c wk rm md pk pa ka kn kc w ht
 ·exact changes8_calls F xp wp m hm r W V i b c wk rm md pk pa ka kn kc w ht
 ·exact changes9_calls F xp wp m hm r W V i b c wk rm md pk pa ka kn kc w ht
structure OpS where
 k : Int
 r : Int
 W : Int
 V : Int
 i : Int
 b : Int
 c : Int
 wk : Int
 rm : Int
 md : Int
 ks : List KindS
 pk : Int
 pa : Int
def OpAt (W : World) (g o : Nat) (x : OpS) : Prop :=
 ∃ ka kc, (∀ t u, (opV x.k x.r x.W x.V x.i x.b x.c x.wk x.rm x.md (.slice ka x.ks.length kc) x.pk x.pa)[t]? = some u -> W.cell? ⟨g, o + t, none⟩ = some u) /\ KindsAt (fun _ => True) W (.slice ka x.ks.length kc) x.ks
def OpFits (x : OpS) : Prop := isI64 x.r /\ isI64 x.W /\ isI64 x.V /\ isI64 x.i /\ isI64 x.b /\ isI64 x.c /\ x.ks.length * 40 <= 140737488351232 /\ ∀ k ∈ x.ks, k.kids.length * 16 <= 140737488351232
def ScriptAt (W : World) (a : Option Addr) (l : List OpS) : Prop := ∀ j x, l[j]? = some x -> OpFits x /\ ∃ g o, a = some ⟨g, o, none⟩ /\ g < W.heap.size /\ OpAt W g (o + j * 13) x
theorem KindsAt.later {W W' : World} {v : Value} {ks : List KindS} (h : KindsAt (fun _ => True) W v ks) (hb : Below W.heap.size W W') : KindsAt (fun _ => True) W' v ks :=
 (h.below.kept (Kept.of_below hb (X := fun b => W.heap.size <= b) (fun _ _ h => h)) (fun b h1 h2 => by omega)).mono (fun _ _ => trivial)
theorem ScriptAt.later {W W' : World} {a : Option Addr} {l : List OpS} (h : ScriptAt W a l) (hb : Below W.heap.size W W') : ScriptAt W' a l := by
 intro j x hj
 obtain ⟨hf, g, o, ha, hg, ka, kc, hc, hk⟩ := h j x hj
 exact ⟨hf, g, o, ha, Nat.lt_of_lt_of_le hg hb.size, ka, kc, fun t u ht => (hb.cell (p := ⟨g, _, none⟩) hg).trans (hc t u ht), hk.later hb⟩
def twinEnc (p : Option Addr × Option Addr) : List Value := [.pointer p.1, .pointer p.2]
theorem infoTwin : (Tryz.prog.info? 61).map (fun i => (i.zero, i.size, i.bytes)) = some (some (.agg #[.pointer none, .pointer none]), 2, 16) := by kernel_rfl
structure TwinsAt (base : Nat) (own : Nat -> Nat) (W : World) (tv : Value) (tw : List (Option Addr × Option Addr)) (Bb N came i : Nat) : Prop where
 new : ∀ g, own g ≠ 0 -> base <= g
 books : BooksOK (fun g => own g = 2) W Bb N came
 hN : N <= 2 * i
 hcm : came <= i
 row : W.ownsRow base 61 2 tv tw.length (tw.flatMap twinEnc)
 rown : ∀ g, tv.ownBlock = some g -> own g = 1
 few : tw.length <= i
 each : ∀ j p, tw[j]? = some p -> TwinAt (fun g => own g = 3 + j) W p.1 p.2 i
theorem TwinsAt.next {base : Nat} {own : Nat -> Nat} {W : World} {tv : Value} {tw : List (Option Addr × Option Addr)} {Bb N came i i' : Nat} (h : TwinsAt base own W tv tw Bb N came i) (hi : i <= i') : TwinsAt base own W tv tw Bb N came i' :=
 ⟨h.new, h.books, by have := h.hN; omega, by have := h.hcm; omega, h.row, h.rown, by have := h.few; omega, fun j p hj => (h.each j p hj).kept (Kept.refl (fun _ => False) W) (fun g _ hg => ⟨fun h => h, hg⟩) hi⟩
theorem TwinsAt.later {base : Nat} {own : Nat -> Nat} {W W' : World} {tv : Value} {tw : List (Option Addr × Option Addr)} {Bb N came i : Nat} (h : TwinsAt base own W tv tw Bb N came i) (hb : Below W.heap.size W W') : TwinsAt base (fun g => if g < W.heap.size then own g else 0) W' tv tw Bb N came i := by
 have hk : Kept (fun b => W.heap.size <= b) W W' := Kept.of_below hb (fun _ _ h => h)
 refine ⟨fun g hg => ?_, h.books.kept hk (fun g hl hg => ⟨by omega, by simp [hl, hg]⟩), h.hN, h.hcm, row_later h.row hb, fun g e => ?_, h.few, fun j p hj => (h.each j p hj).kept hk (fun g hl hg => ⟨by omega, by simp [hl, hg]⟩) (Nat.le_refl _)⟩
 ·by_cases hl : g < W.heap.size
  ·exact h.new g (by simpa [hl] using hg)
  ·simp [hl] at hg
 ·have := (h.row.lt g e).2
  simp [this, h.rown g e]
theorem TwinsAt.changed {base : Nat} {own : Nat -> Nat} {W W' : World} {tv : Value} {tw : List (Option Addr × Option Addr)} {Bb N came i m : Nat} {p : Option Addr × Option Addr} (h : TwinsAt base own W tv tw Bb N came i) (hbase : base <= W.heap.size) (hm : tw[m]? = some p)
  (hk : Kept (fun g => own g = 3 + m) W W') (ht : TwinAt (fun g => own g = 3 + m \/ W.heap.size <= g) W' p.1 p.2 (i + 1)) : TwinsAt base (fun g => if g < W.heap.size then own g else 3 + m) W' tv tw Bb N came (i + 1) := by
 refine ⟨fun g hg => ?_, h.books.kept hk (fun g hl hg => ⟨by omega, by simp [hl, hg]⟩), by have := h.hN; omega, by have := h.hcm; omega, row_kept h.row hk (fun g e hg => by have := h.rown g e; omega) (Nat.le_refl _), fun g e => ?_, by have := h.few; omega, fun j q hj => ?_⟩
 ·by_cases hl : g < W.heap.size
  ·exact h.new g (by simpa [hl] using hg)
  ·omega
 ·have := (h.row.lt g e).2
  simp [this, h.rown g e]
 ·by_cases hjm : j = m
  ·subst hjm
   rw [hm] at hj
   cases hj
   refine ht.kept (Kept.refl (fun _ => False) W') (fun g _ hg => ⟨fun h => h, ?_⟩) (Nat.le_refl _)
   by_cases hl : g < W.heap.size
   ·rcases hg with hg | hg
    ·simp [hl, hg]
    ·omega
   ·simp [hl]
  ·exact (h.each j q hj).kept hk (fun g hl hg => ⟨by omega, by simp [hl, hg]⟩) (by omega)
theorem TwinsAt.asked {base : Nat} {own : Nat -> Nat} {W W' : World} {tv : Value} {tw : List (Option Addr × Option Addr)} {Bb N N' came i : Nat} (h : TwinsAt base own W tv tw Bb N came i) (hbase : base <= W.heap.size)
  (hk : Kept (fun g => own g = 2) W W') (hN' : N' <= N + 2) (ht : BooksOK (fun g => own g = 2 \/ W.heap.size <= g) W' Bb N' (came + 1)) : TwinsAt base (fun g => if g < W.heap.size then own g else 2) W' tv tw Bb N' (came + 1) (i + 1) := by
 refine ⟨fun g hg => ?_, ht.mono (fun g _ hg => ?_), by have := h.hN; omega, by have := h.hcm; omega, row_kept h.row hk (fun g e hg => by have := h.rown g e; omega) (Nat.le_refl _), fun g e => ?_, by have := h.few; omega, fun j q hj => (h.each j q hj).kept hk (fun g hl hg => ⟨by omega, by simp [hl, hg]⟩) (by omega)⟩
 ·by_cases hl : g < W.heap.size
  ·exact h.new g (by simpa [hl] using hg)
  ·omega
 ·by_cases hl : g < W.heap.size
  ·rcases hg with hg | hg
   ·simp [hl, hg]
   ·omega
  ·simp [hl]
 ·have := (h.row.lt g e).2
  simp [this, h.rown g e]
theorem TwinsAt.added {base : Nat} {own : Nat -> Nat} {W W1 W2 : World} {tv tv' : Value} {tw : List (Option Addr × Option Addr)} {Bb N came i : Nat} {p : Option Addr × Option Addr} (h : TwinsAt base own W tv tw Bb N came i) (hbase : base <= W.heap.size) (hb : Below W.heap.size W W1)
  (ht : TwinAt (fun g => W.heap.size <= g /\ g < W1.heap.size) W1 p.1 p.2 0) (hk : Kept (fun b => tv.ownBlock = some b) W1 W2) (hr : W2.ownsRow base 61 2 tv' (tw ++ [p]).length ((tw ++ [p]).flatMap twinEnc)) (ho : ∀ g, tv'.ownBlock = some g -> tv.ownBlock = some g \/ W1.heap.size <= g) :
  TwinsAt base (fun g => if g < W.heap.size then own g else if g < W1.heap.size then 3 + tw.length else 1) W2 tv' (tw ++ [p]) Bb N came (i + 1) := by
 have hs := hb.size
 have hk1 : Kept (fun b => W.heap.size <= b) W W1 := Kept.of_below hb (fun _ _ h => h)
 have hlt : ∀ g, tv.ownBlock = some g -> g < W.heap.size := fun g e => (h.row.lt g e).2
 have hk2 : Kept (fun b => tv.ownBlock = some b) W W2 := (hk1.mono (fun b h1 h2 => by omega)).trans hk
 refine ⟨fun g hg => ?_, h.books.kept hk2 (fun g hl hg => ⟨fun e => by have := h.rown g e; omega, by simp [hl, hg]⟩), by have := h.hN; omega, by have := h.hcm; omega, hr, fun g e => ?_, by have := h.few; simp; omega, fun j q hj => ?_⟩
 ·by_cases hl : g < W.heap.size
  ·exact h.new g (by simpa [hl] using hg)
  ·omega
 ·rcases ho g e with e' | e'
  ·simp [hlt g e', h.rown g e']
  ·simp [show ¬ g < W.heap.size by omega, show ¬ g < W1.heap.size by omega]
 ·rcases Nat.lt_or_ge j tw.length with hjl | hjl
  ·rw [List.getElem?_append_left hjl] at hj
   exact (h.each j q hj).kept hk2 (fun g hl hg => ⟨fun e => by have := h.rown g e; omega, by simp [hl, hg]⟩) (by omega)
  ·have hj0 : j = tw.length := by
    have := (List.getElem?_eq_some_iff.1 hj).1
    simp at this
    omega
   subst hj0
   rw [List.getElem?_append_right (Nat.le_refl _)] at hj
   simp at hj
   subst hj
   refine ht.kept hk (fun g hl hg => ⟨fun e => by have := hlt g e; omega, ?_⟩) (by omega)
   simp [show ¬ g < W.heap.size by omega, hg.2]
theorem TwinsAt.start (base : Nat) (W : World) (hb : base <= W.heap.size) : TwinsAt base (fun g => if g = W.heap.size then 2 else 0) (W.alloc (Obj.cells #[.int .i64 0, .int .i64 0, .bool false, .slice none 0 0, .slice none 0 0, .slice none 0 0, .slice none 0 0, .slice none 0 0, .slice none 0 0, .slice none 0 0] 56)) (.slice none 0 0) [] W.heap.size 0 0 0 :=
 ⟨fun g hg => by
   by_cases h : g = W.heap.size
   ·omega
   ·simp [h] at hg, (BooksOK.new W).mono (fun g _ hg => by simp [hg]), Nat.le_refl _, Nat.le_refl _, World.ownsRow_nil _ _ _ _, (fun g e => by cases e), Nat.le_refl _, fun j p hj => by simp at hj⟩
theorem twins_get (tw : List (Option Addr × Option Addr)) : ∀ (j : Nat) (p : Option Addr × Option Addr), tw[j]? = some p -> (tw.flatMap twinEnc)[j * 2]? = some (.pointer p.1) /\ (tw.flatMap twinEnc)[j * 2 + 1]? = some (.pointer p.2) := by
 induction tw with
 | nil => intro j d h; simp at h
 | cons e r ih =>
  intro j d h
  rw [List.flatMap_cons]
  cases j with
  | zero => simp at h; subst h; exact ⟨rfl, rfl⟩
  | succ j =>
   obtain ⟨h1, h2⟩ := ih j d (by simpa using h)
   rw [show (j + 1) * 2 = j * 2 + 2 from by omega]
   constructor
   ·rw [List.getElem?_append_right (by simp [twinEnc])]
    have e : j * 2 + 2 - (twinEnc e).length = j * 2 := by simp [twinEnc]
    rw [e]; exact h1
   ·rw [List.getElem?_append_right (by simp [twinEnc])]
    have e : j * 2 + 2 + 1 - (twinEnc e).length = j * 2 + 1 := by simp [twinEnc]
    rw [e]; exact h2
end Go.Proofs.YteahdfeialekbaaGreatDoor
