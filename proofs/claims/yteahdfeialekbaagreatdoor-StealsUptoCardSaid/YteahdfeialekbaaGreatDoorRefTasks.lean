/-
  gleanlaw's Books.markV writes a list full of its mark and books it four times, each time one longer: every list that was booked stays full of its mark.
-/
import Derived.Test.YteahdfeialekbaaGreatDoorBooks
import Derived.Test.YteahdfeialekbaaGreatDoorSame
import Derived.Laws.AppendOwnNone
import Derived.Test.YteahdfeialekbaaGreatDoorRefKids
namespace Go.Proofs.YteahdfeialekbaaGreatDoor
open Go Go.RowKit
theorem infoBook : (Tryz.prog.info? 106).map (fun i => (i.zero, i.size, i.bytes)) = some (some (.agg #[.int .i64 0, .slice none 0 0, .slice none 0 0, .slice none 0 0]), 4, 80) := by kernel_rfl
theorem row_form {W : World} {base e size n : Nat} {v : Value} {xs : List Value} (h : W.ownsRow base e size v n xs) : ∃ a cap, v = .slice a n cap := by
 rcases h.2 with ⟨rfl, rfl⟩ | ⟨g, cap, cur, rfl, _⟩
 ·exact ⟨_, _, rfl⟩
 ·exact ⟨_, _, rfl⟩
theorem wpList_append_row {P : Program} {w : World} {ops : Array Oper} {rest : List Oper} {o : Oper} {a : Act} {Q : Exit -> Act -> World -> Prop} (hgd : o.guard = none) (s x : Operand) (t : TypeId)
  (ho : o.op = .call { callee := .builtin .append, args := #[s, x], argTypes := #[t, t] })
  (e : TypeId) (i : TypeInfo) (z : Value) (size bytes : Nat) (ht : P.underlying t = some (.slice e)) (hi : P.info? e = some i) (hz : i.zero = some z)
  (hsize : i.size = size) (hby : i.bytes = bytes) (hzs : z.cells.size = size) (hsz : 0 < size) (hs : a.eval s = .slice none 0 0)
  (base : Nat) (lv : Value) (n : Nat) (xs : List Value) (hx : a.eval x = lv) (hown : w.ownsRow base e size lv n xs) (h1 : ∀ u ∈ xs, u.oneCell' = true) (h63 : n <= maxLen) (hbytes : n * bytes <= 140737488355328)
  (h : ∀ v' w', w'.ownsRow w.heap.size e size v' n xs -> Kept (fun _ => False) w w' -> wpList P ops Q rest (a.put o.dst v') w') : wpList P ops Q (o :: rest) a w := by
 have hown' := hown
 obtain ⟨hl, hv⟩ := hown
 rcases hv with ⟨rfl, rfl⟩ | ⟨g, cap, cur, rfl, _⟩
 ·obtain rfl : xs = [] := List.eq_nil_of_length_eq_zero (by simpa using hl)
  exact wpList_append_own_none hgd s x t ho w.heap.size e i size ht hi (.slice none 0 0) 0 [] hs (World.ownsRow_nil w _ e size) hx (h _ w (World.ownsRow_nil w _ e size) (Kept.refl _ _))
 ·refine wpList_append_own w hgd s x t ho w.heap.size e i z size bytes ht hi hz hsize hby hzs hsz (.slice none 0 0) 0 [] hs (World.ownsRow_nil w _ e size) ⟨g, 0, none⟩ n cap xs hx hl (fun j u hj => hown'.cells (g := g) rfl j u hj) h1 (by omega) (by rw [Nat.zero_add]; exact hbytes) (Nat.le_refl _) ?_
  intro v' w' hr hg _
  exact h v' w' (by simpa using hr) (Kept.grown hg (fun r e => by cases e))

structure MarkSort where
 t : TypeId
 sz : Nat
 el : Int -> List Value
def sortV : MarkSort := ⟨84, 2, fun N => [.string ⟨#[]⟩, .int .i64 (-100000 - N)]⟩
def sortT : MarkSort := ⟨76, 3, fun N => [.string ⟨#[]⟩, .int .i64 0, .int .i64 (-N)]⟩
def sortM : MarkSort := ⟨140, 15, fun N => [.int .i64 0, .int .i64 0, .int .i64 (-N), .int .i64 0, .string ⟨#[]⟩, .int .i64 0, .int .i64 0, .string ⟨#[]⟩, .int .i64 0, .bool false, .bool false, .int .i64 0, .int .i64 0, .int .i64 0, .int .i64 0]⟩
def Marked (S : MarkSort) (W : World) (G : Nat -> Nat -> Prop) (v : Value) (N : Int) : Prop :=
 ∃ a n cap, v = .slice a n cap /\ (n <= 4611686018427387904 /\ 0 <= N /\ N <= 1000000000000000) /\ ∀ j, j < n -> ∃ g cs, a = some ⟨g, 0, none⟩ /\ G g n /\ BoxAt W g S.t cs /\ ∀ i u, (S.el N)[i]? = some u -> cs[j * S.sz + i]? = some u
theorem Marked.kept {S : MarkSort} {X : Nat -> Prop} {W W' : World} {G G' : Nat -> Nat -> Prop} {v : Value} {N : Int} (h : Marked S W G v N) (k : Kept X W W') (hx : ∀ g n cs, BoxAt W g S.t cs -> G g n -> ¬ X g) (hg : ∀ g n cs, BoxAt W g S.t cs -> G g n -> G' g n) : Marked S W' G' v N := by
 obtain ⟨a, n, cap, rfl, hn, h⟩ := h
 refine ⟨a, n, cap, rfl, hn, fun j hj => ?_⟩
 obtain ⟨g, cs, h1, h2, h3, h4⟩ := h j hj
 exact ⟨g, cs, h1, hg g n cs h3 h2, h3.kept k (hx g n cs h3 h2), h4⟩
theorem Marked.nil (S : MarkSort) (W : World) (G : Nat -> Nat -> Prop) (N : Int) (h0 : 0 <= N) (h1 : N <= 1000000000000000) : Marked S W G (.slice none 0 0) N := ⟨none, 0, 0, rfl, ⟨by omega, h0, h1⟩, fun j hj => absurd hj (by omega)⟩
theorem Marked.grown {S : MarkSort} {W W' : World} {row : Option Nat} {n0 : Nat} {G G' : Nat -> Nat -> Prop} {v : Value} {N : Int} (h : Marked S W G v N) (hgr : W.grownBy W' row) (hmk : (S.el N).length = S.sz)
  (hk : ∀ B cs, row = some B -> BoxAt W B S.t cs -> ∃ cs', BoxAt W' B S.t cs' /\ ∀ j, j < n0 * S.sz -> cs'[j]? = cs[j]?) (hg : ∀ g n cs, BoxAt W g S.t cs -> G g n -> (row = some g -> n <= n0) /\ G' g n) : Marked S W' G' v N := by
 obtain ⟨a, n, cap, rfl, hn, h⟩ := h
 refine ⟨a, n, cap, rfl, hn, fun j hj => ?_⟩
 obtain ⟨g, cs, h1, h2, h3, h4⟩ := h j hj
 obtain ⟨h6, h7⟩ := hg g n cs h3 h2
 by_cases hr : row = some g
 ·obtain ⟨cs', k1, k2⟩ := hk g cs hr h3
  have := h6 hr
  refine ⟨g, cs', h1, h7, k1, fun i u hi => (k2 _ ?_).trans (h4 i u hi)⟩
  have hi' : i < S.sz := by rw [<- hmk]; exact (List.getElem?_eq_some_iff.1 hi).1
  have h8 : (j + 1) * S.sz <= n0 * S.sz := Nat.mul_le_mul_right _ (by omega)
  rw [Nat.succ_mul] at h8
  omega
 ·exact ⟨g, cs, h1, h7, (hgr.block g h3.lt (fun e => hr e.symm)).trans h3, h4⟩
def markRow (S : MarkSort) (N : Int) (n : Nat) : List Value := (List.replicate n (S.el N)).flatten
theorem markRow_length (S : MarkSort) (N : Int) (n : Nat) (hmk : (S.el N).length = S.sz) : (markRow S N n).length = n * S.sz := by
 simp [markRow, hmk]
theorem markRow_snoc (S : MarkSort) (N : Int) (n : Nat) : markRow S N (n + 1) = markRow S N n ++ S.el N := by
 unfold markRow
 rw [List.replicate_succ']
 simp
theorem markRow_get (S : MarkSort) (N : Int) (hmk : (S.el N).length = S.sz) : ∀ (n j i : Nat) (u : Value), j < n -> (S.el N)[i]? = some u -> (markRow S N n)[j * S.sz + i]? = some u
 | 0, j, i, u, h, _ => absurd h (by omega)
 | n + 1, j, i, u, h, hi => by
  have hi' : i < S.sz := by rw [<- hmk]; exact (List.getElem?_eq_some_iff.1 hi).1
  rw [markRow_snoc]
  rcases Nat.lt_or_ge j n with hj | hj
  ·have := markRow_get S N hmk n j i u hj hi
   rw [List.getElem?_append_left (List.getElem?_eq_some_iff.1 this).1]
   exact this
  ·obtain rfl : j = n := by omega
   rw [List.getElem?_append_right (by rw [markRow_length S N j hmk]; omega), markRow_length S N j hmk]
   rw [show j * S.sz + i - j * S.sz = i from by omega]
   exact hi
theorem marked_of_row {S : MarkSort} {W : World} {G : Nat -> Nat -> Prop} {v : Value} {n : Nat} {N : Int} (h : W.ownsRow 0 S.t S.sz v n (markRow S N n)) (hmk : (S.el N).length = S.sz) (hn : n <= 4611686018427387904 /\ 0 <= N /\ N <= 1000000000000000) (hg : ∀ g, v.ownBlock = some g -> G g n) : Marked S W G v N := by
 obtain ⟨_, h⟩ := h
 rcases h with ⟨rfl, rfl⟩ | ⟨g, cap, cur, rfl, _, hcur, _, _, _, htk⟩
 ·exact ⟨none, 0, 0, rfl, hn, fun j hj => absurd hj (by omega)⟩
 ·refine ⟨_, n, cap, rfl, hn, fun j hj => ⟨g, cur, rfl, hg g rfl, hcur, fun i u hi => ?_⟩⟩
  have h1 := markRow_get S N hmk n j i u hj hi
  have h2 := (List.getElem?_eq_some_iff.1 h1).1
  rw [markRow_length S N n hmk] at h2
  have e : cur[j * S.sz + i]? = (markRow S N n)[j * S.sz + i]? := by
   rw [<- htk, List.getElem?_take, if_pos h2]; simp
  rw [e, h1]
theorem markRow_eq (S : MarkSort) (N : Int) (n : Nat) (hsz : 0 < S.sz) (hmk : (S.el N).length = S.sz) {xs : List Value} (hl : xs.length = n * S.sz) (h : ∀ j i, j < n -> i < S.sz -> xs[j * S.sz + i]? = (S.el N)[i]?) : xs = markRow S N n := by
 refine List.ext_getElem? fun i => ?_
 rcases Nat.lt_or_ge i (n * S.sz) with hi | hi
 ·have h1 : i / S.sz < n := (Nat.div_lt_iff_lt_mul hsz).2 hi
  have h2 : i % S.sz < S.sz := Nat.mod_lt _ hsz
  have e : i / S.sz * S.sz + i % S.sz = i := by rw [Nat.mul_comm]; exact Nat.div_add_mod _ _
  obtain ⟨u, hu⟩ : ∃ u, (S.el N)[i % S.sz]? = some u := ⟨_, List.getElem?_eq_getElem (by omega)⟩
  have h3 := h _ _ h1 h2
  have h4 := markRow_get S N hmk n _ _ u h1 hu
  rw [e] at h3 h4
  rw [h3, h4, hu]
 ·rw [List.getElem?_eq_none (by omega), List.getElem?_eq_none (by rw [markRow_length S N n hmk]; omega)]
abbrev Bk := Int × Value × Value × Value
def bkCells (bs : List Bk) : List Value := bs.flatMap fun x => [.int .i64 x.1, x.2.1, x.2.2.1, x.2.2.2]
theorem bkCells_snoc (bs : List Bk) (N : Int) (v t m : Value) : bkCells (bs ++ [(N, v, t, m)]) = bkCells bs ++ [.int .i64 N, v, t, m] := by simp [bkCells]
theorem bkCells_get (bs : List Bk) : ∀ (j : Nat) (x : Bk), bs[j]? = some x -> (bkCells bs)[j * 4]? = some (.int .i64 x.1) /\ (bkCells bs)[j * 4 + 1]? = some x.2.1 /\ (bkCells bs)[j * 4 + 2]? = some x.2.2.1 /\ (bkCells bs)[j * 4 + 3]? = some x.2.2.2 := by
 induction bs with
 | nil => intro j x h; simp at h
 | cons y r ih =>
  intro j x h
  cases j with
  | zero => simp at h; subst h; exact ⟨rfl, rfl, rfl, rfl⟩
  | succ j =>
   have := ih j x (by simpa using h)
   have e : ∀ k, (bkCells (y :: r))[(j + 1) * 4 + k]? = (bkCells r)[j * 4 + k]? := fun k => by
    show ([Value.int .i64 y.1, y.2.1, y.2.2.1, y.2.2.2] ++ bkCells r)[(j + 1) * 4 + k]? = _
    rw [List.getElem?_append_right (by simp; omega)]
    congr 1
    simp; omega
   exact ⟨(e 0).trans this.1, (e 1).trans this.2.1, (e 2).trans this.2.2.1, (e 3).trans this.2.2.2⟩
def MarkedB (W : World) (G : Nat -> Nat -> Prop) (x : Bk) : Prop := Marked sortV W G x.2.1 x.1 /\ Marked sortT W G x.2.2.1 x.1 /\ Marked sortM W G x.2.2.2 x.1
def Sorted3 (t : TypeId) : Prop := t = 84 \/ t = 76 \/ t = 140
theorem MarkedB.kept {X : Nat -> Prop} {W W' : World} {G G' : Nat -> Nat -> Prop} {x : Bk} (h : MarkedB W G x) (k : Kept X W W') (hx : ∀ g n t cs, Sorted3 t -> BoxAt W g t cs -> G g n -> ¬ X g) (hg : ∀ g n t cs, Sorted3 t -> BoxAt W g t cs -> G g n -> G' g n) : MarkedB W' G' x :=
 ⟨h.1.kept k (fun g n cs => hx g n _ cs (.inl rfl)) (fun g n cs => hg g n _ cs (.inl rfl)), h.2.1.kept k (fun g n cs => hx g n _ cs (.inr (.inl rfl))) (fun g n cs => hg g n _ cs (.inr (.inl rfl))), h.2.2.kept k (fun g n cs => hx g n _ cs (.inr (.inr rfl))) (fun g n cs => hg g n _ cs (.inr (.inr rfl)))⟩
theorem Sorted3.ne {t : TypeId} (h : Sorted3 t) : t ≠ 56 /\ t ≠ 106 := by
 rcases h with rfl | rfl | rfl <;> decide
theorem boxAt_type {W : World} {B : Nat} {t t' : TypeId} {cs cs' : Array Value} (h : BoxAt W B t cs) (h' : BoxAt W B t' cs') : t = t' := by
 have := h.symm.trans h'
 simp at this
 exact this.2
theorem Marked.grown0 {S S0 : MarkSort} {W W' : World} {row : Option Nat} {G G' : Nat -> Nat -> Prop} {v : Value} {N : Int} (h : Marked S W G v N) (hgr : W.grownBy W' row) (hne : S.t ≠ S0.t) (hk : ∀ B t cs, row = some B -> BoxAt W B t cs -> t = S0.t) (hg : ∀ g n cs, BoxAt W g S.t cs -> G g n -> G' g n) : Marked S W' G' v N :=
 h.kept (Kept.grown hgr (X := fun b => row = some b) (fun _ e => e)) (fun g _ cs hb _ e => hne (hk g _ cs e hb)) hg
theorem MarkedB.grown {S0 : MarkSort} {W W' : World} {row : Option Nat} {n0 : Nat} {G G' : Nat -> Nat -> Prop} {x : Bk} (h : MarkedB W G x) (hgr : W.grownBy W' row) (hS : S0 = sortV \/ S0 = sortT \/ S0 = sortM)
  (hk : ∀ B t cs, row = some B -> BoxAt W B t cs -> t = S0.t /\ ∃ cs', BoxAt W' B t cs' /\ ∀ j, j < n0 * S0.sz -> cs'[j]? = cs[j]?) (hg : ∀ g n t cs, Sorted3 t -> BoxAt W g t cs -> G g n -> (row = some g -> n <= n0) /\ G' g n) : MarkedB W' G' x := by
 obtain ⟨h1, h2, h3⟩ := h
 have hV : ∀ g n cs, BoxAt W g sortV.t cs -> G g n -> G' g n := fun g n cs hb hG => (hg g n _ cs (.inl rfl) hb hG).2
 have hT : ∀ g n cs, BoxAt W g sortT.t cs -> G g n -> G' g n := fun g n cs hb hG => (hg g n _ cs (.inr (.inl rfl)) hb hG).2
 have hM : ∀ g n cs, BoxAt W g sortM.t cs -> G g n -> G' g n := fun g n cs hb hG => (hg g n _ cs (.inr (.inr rfl)) hb hG).2
 have hk0 : ∀ B t cs, row = some B -> BoxAt W B t cs -> t = S0.t := fun B t cs e hb => (hk B t cs e hb).1
 have hk1 : ∀ B cs, row = some B -> BoxAt W B S0.t cs -> ∃ cs', BoxAt W' B S0.t cs' /\ ∀ j, j < n0 * S0.sz -> cs'[j]? = cs[j]? := fun B cs e hb => (hk B _ cs e hb).2
 rcases hS with rfl | rfl | rfl
 ·exact ⟨h1.grown hgr rfl hk1 (fun g n cs hb hG => hg g n _ cs (.inl rfl) hb hG), h2.grown0 hgr (by decide) hk0 hT, h3.grown0 hgr (by decide) hk0 hM⟩
 ·exact ⟨h1.grown0 hgr (by decide) hk0 hV, h2.grown hgr rfl hk1 (fun g n cs hb hG => hg g n _ cs (.inr (.inl rfl)) hb hG), h3.grown0 hgr (by decide) hk0 hM⟩
 ·exact ⟨h1.grown0 hgr (by decide) hk0 hV, h2.grown0 hgr (by decide) hk0 hT, h3.grown hgr rfl hk1 (fun g n cs hb hG => hg g n _ cs (.inr (.inr rfl)) hb hG)⟩
abbrev booksCells (N came : Int) (kV wV kT wT kM wM vA : Value) : Array Value := #[.int .i64 N, .int .i64 came, .bool false, kV, wV, kT, wT, kM, wM, vA]
def BooksX (F : Nat -> Prop) (G : Nat -> Nat -> Prop) (W : World) (B : Nat) (N came : Int) (kV wV kT wT kM wM : Value) (bs : List Bk) : Prop :=
 ∃ vA, BoxAt W B 56 (booksCells N came kV wV kT wT kM wM vA) /\ W.ownsRow 0 106 4 vA bs.length (bkCells bs) /\ F B /\ (∀ g, vA.ownBlock = some g -> F g) /\ ∀ x ∈ bs, MarkedB W G x
theorem BooksX.kept {X F F' : Nat -> Prop} {G G' : Nat -> Nat -> Prop} {W W' : World} {B : Nat} {N came : Int} {kV wV kT wT kM wM : Value} {bs : List Bk} (h : BooksX F G W B N came kV wV kT wT kM wM bs) (k : Kept X W W') (hx : ∀ g, g < W.heap.size -> F g -> ¬ X g) (hy : ∀ g n, g < W.heap.size -> G g n -> ¬ X g)
  (hf : ∀ g, g < W.heap.size -> F g -> F' g) (hg : ∀ g n, g < W.heap.size -> G g n -> G' g n) : BooksX F' G' W' B N came kV wV kT wT kM wM bs := by
 obtain ⟨vA, h1, h2, h3, h4, h5⟩ := h
 exact ⟨vA, h1.kept k (hx B h1.lt h3), row_kept h2 k (fun g e => hx g (h2.lt g e).2 (h4 g e)) (Nat.le_refl _), hf B h1.lt h3, fun g e => hf g (h2.lt g e).2 (h4 g e), fun x hxm => (h5 x hxm).kept k (fun g n t cs _ hb => hy g n hb.lt) (fun g n t cs _ hb => hg g n hb.lt)⟩
def putAll (W : World) (g o : Nat) : List Value -> World
 | [] => W
 | u :: r => putAll (W.setCell ⟨g, o, none⟩ u) g (o + 1) r
def setAll (xs : List Value) (o : Nat) : List Value -> List Value
 | [] => xs
 | u :: r => setAll (xs.set o u) (o + 1) r
theorem setAll_length : ∀ (us xs : List Value) (o : Nat), (setAll xs o us).length = xs.length
 | [], _, _ => rfl
 | u :: r, xs, o => by rw [setAll, setAll_length r]; simp
theorem setAll_out : ∀ (us xs : List Value) (o k : Nat), (k < o \/ o + us.length <= k) -> (setAll xs o us)[k]? = xs[k]?
 | [], _, _, _, _ => rfl
 | u :: r, xs, o, k, h => by
  rw [setAll, setAll_out r _ _ _ (by simp at h; omega), List.getElem?_set_ne (by simp at h; omega)]
theorem setAll_in : ∀ (us xs : List Value) (o i : Nat), i < us.length -> o + us.length <= xs.length -> (setAll xs o us)[o + i]? = us[i]?
 | [], _, _, _, h, _ => absurd h (by simp)
 | u :: r, xs, o, 0, _, h2 => by
  simp at h2
  rw [setAll, setAll_out r _ _ _ (by omega), Nat.add_zero, List.getElem?_set_self (by omega)]; simp
 | u :: r, xs, o, i + 1, h1, h2 => by
  simp at h1 h2
  rw [setAll, show o + (i + 1) = o + 1 + i from by omega, setAll_in r _ _ _ (by omega) (by simp; omega)]; simp
theorem row_putAll {e sz n g cap : Nat} : ∀ (us xs : List Value) (o : Nat) (W : World), W.ownsRow 0 e sz (.slice (some ⟨g, 0, none⟩) n cap) n xs -> o + us.length <= n * sz -> (putAll W g o us).ownsRow 0 e sz (.slice (some ⟨g, 0, none⟩) n cap) n (setAll xs o us)
 | [], _, _, _, h, _ => h
 | u :: r, xs, o, W, h, hl => by
  simp at hl
  rw [putAll, setAll]
  refine row_putAll r _ _ _ ?_ (by omega)
  obtain ⟨hx, h⟩ := h
  rcases h with ⟨h0, _⟩ | ⟨g', cap', cur, h0, hb, hcur, hnc, hcm, hcs, htk⟩
  ·cases h0
  ·cases h0
   refine ⟨by simpa using hx, .inr ⟨g, cap, _, rfl, hb, BoxAt.setAt hcur o u, hnc, hcm, by simpa using hcs, ?_⟩⟩
   rw [<- htk]
   simp [List.take_set]
theorem kept_putAll {X : Nat -> Prop} {A : World} {g : Nat} (hg : X g \/ A.heap.size <= g) : ∀ (us : List Value) (o : Nat) (W : World), Kept X A W -> Kept X A (putAll W g o us)
 | [], _, _, h => h
 | u :: r, _, _, h => kept_putAll hg r _ _ (h.setCell hg u)
structure MsgS where
 src : Int
 dst : Int
 no : Int
 kind : Int
 t : TaskS
 v : ByteArray × Int
 black : Bool
 idle : Bool
 count : Int
 round : Int
 sent : Int
 came : Int
def valEnc (x : ByteArray × Int) : List Value := [.string x.1, .int .i64 x.2]
def taskEnc (t : TaskS) : List Value := [.string t.id, .int .i64 t.kind, .int .i64 t.arg]
def msgEnc (m : MsgS) : List Value := [.int .i64 m.src, .int .i64 m.dst, .int .i64 m.no, .int .i64 m.kind, .string m.t.id, .int .i64 m.t.kind, .int .i64 m.t.arg, .string m.v.1, .int .i64 m.v.2, .bool m.black, .bool m.idle, .int .i64 m.count, .int .i64 m.round, .int .i64 m.sent, .int .i64 m.came]
theorem infoMessage : (Tryz.prog.info? 140).map (fun i => (i.zero, i.size, i.bytes)) = some (some (.agg #[.int .i64 0, .int .i64 0, .int .i64 0, .int .i64 0, .string ⟨#[]⟩, .int .i64 0, .int .i64 0, .string ⟨#[]⟩, .int .i64 0, .bool false, .bool false, .int .i64 0, .int .i64 0, .int .i64 0, .int .i64 0]), 15, 128) := by kernel_rfl
theorem hid_of {p : Prop} (h : p) : Hid p := h
def ListAt {α : Type} (sz : Nat) (enc : α -> List Value) (W : World) (v : Value) (l : List α) : Prop :=
 ∃ a cap, v = .slice a l.length cap /\ ∀ j x, l[j]? = some x -> ∃ g o, a = some ⟨g, o, none⟩ /\ g < W.heap.size /\ ∀ i u, (enc x)[i]? = some u -> W.cell? ⟨g, o + j * sz + i, none⟩ = some u
theorem ListAt.below {α : Type} {sz n : Nat} {enc : α -> List Value} {W W' : World} {v : Value} {l : List α} (h : ListAt sz enc W v l) (hb : Below n W W') (hn : W.heap.size <= n) : ListAt sz enc W' v l := by
 obtain ⟨a, cap, rfl, hc⟩ := h
 refine ⟨a, cap, rfl, fun j x hj => ?_⟩
 obtain ⟨g, o, ha, hg, c0⟩ := hc j x hj
 exact ⟨g, o, ha, Nat.lt_of_lt_of_le hg hb.size, fun i u hi => (hb.cell (p := ⟨g, _, none⟩) (Nat.lt_of_lt_of_le hg hn)).trans (c0 i u hi)⟩
theorem ListAt.nil {α : Type} (sz : Nat) (enc : α -> List Value) (W : World) : ListAt sz enc W (.slice none 0 0) [] := ⟨none, 0, rfl, fun j x h => by simp at h⟩
theorem flat_length {α : Type} {sz : Nat} {enc : α -> List Value} (he : ∀ x, (enc x).length = sz) : ∀ l : List α, (l.flatMap enc).length = l.length * sz
 | [] => by simp
 | x :: r => by rw [List.flatMap_cons, List.length_append, he x, flat_length he r, List.length_cons, Nat.succ_mul]; omega
theorem flat_get {α : Type} {sz : Nat} {enc : α -> List Value} (he : ∀ x, (enc x).length = sz) : ∀ (l : List α) (j : Nat) (x : α) (i : Nat) (u : Value), l[j]? = some x -> (enc x)[i]? = some u -> (l.flatMap enc)[j * sz + i]? = some u
 | [], j, x, i, u, h, _ => by simp at h
 | y :: r, 0, x, i, u, h, hi => by
  simp at h
  subst h
  rw [List.flatMap_cons, Nat.zero_mul, Nat.zero_add, List.getElem?_append_left (List.getElem?_eq_some_iff.1 hi).1]
  exact hi
 | y :: r, j + 1, x, i, u, h, hi => by
  rw [List.flatMap_cons, List.getElem?_append_right (by rw [he y, Nat.succ_mul]; omega), he y, Nat.succ_mul, show j * sz + sz + i - sz = j * sz + i from by omega]
  exact flat_get he r j x i u (by simpa using h) hi
theorem list_of_row {α : Type} {sz t base n : Nat} {enc : α -> List Value} {W : World} {v : Value} {l : List α} (he : ∀ x, (enc x).length = sz) (h : W.ownsRow base t sz v n (l.flatMap enc)) (hn : n = l.length) : ListAt sz enc W v l := by
 subst hn
 obtain ⟨a, cap, rfl, hc⟩ := row_slice h
 refine ⟨a, cap, rfl, fun j x hj => ?_⟩
 rcases h.2 with ⟨_, h2⟩ | ⟨g, cap', cur, h0, hg, hgb, _⟩
 ·have := (List.getElem?_eq_some_iff.1 hj).1
  omega
 ·cases h0
  refine ⟨g, 0, rfl, (Array.getElem?_eq_some_iff.1 hgb).1, fun i u hi => ?_⟩
  obtain ⟨g', e, _, _, c1⟩ := hc _ _ (flat_get he l j x i u hj hi)
  cases e
  rw [Nat.zero_add]
  exact c1
theorem flat_one {α : Type} {enc : α -> List Value} (he : ∀ x, ∀ u ∈ enc x, u.oneCell' = true) (l : List α) : ∀ u ∈ l.flatMap enc, u.oneCell' = true := by
 intro u hu
 obtain ⟨x, _, hx⟩ := List.mem_flatMap.1 hu
 exact he x u hx
theorem taskEnc_one (x : TaskS) : ∀ u ∈ taskEnc x, u.oneCell' = true := by simp [taskEnc, Value.oneCell']
theorem msgEnc_one (x : MsgS) : ∀ u ∈ msgEnc x, u.oneCell' = true := by simp [msgEnc, Value.oneCell']
structure WorkerS where
 tasks : List TaskS
 asked : Bool
 sent : Int
 came : Int
 black : Bool
 has : Bool
 token : MsgS
structure LinkS where
 all : List MsgS
 known : Int
 came : Int
 kept : List Int
structure AnsS where
 many : Int
 sent : Int
 came : Int
 idle : Bool
structure RunS where
 workers : Int
 room : Int
 mode : Int
 ks : List KindS
 kind : Int
 arg : Int
 W : List WorkerS
 links : List (List LinkS)
 way : List MsgS
 values : List (ByteArray × Int)
 answers : List AnsS
 around : Bool
 over : Bool
 done : Bool
def ansEnc (a : AnsS) : List Value := [.int .i64 a.many, .int .i64 a.sent, .int .i64 a.came, .bool a.idle]
def intEnc (n : Int) : List Value := [.int .i64 n]
def ptrEnc (p : Nat) : List Value := [.pointer (some ⟨p, 0, none⟩)]
abbrev workerCells (tv : Value) (s : WorkerS) : Array Value := #[tv, .bool s.asked, .int .i64 s.sent, .int .i64 s.came, .bool s.black, .bool s.has, .int .i64 s.token.src, .int .i64 s.token.dst, .int .i64 s.token.no, .int .i64 s.token.kind, .string s.token.t.id, .int .i64 s.token.t.kind, .int .i64 s.token.t.arg, .string s.token.v.1, .int .i64 s.token.v.2, .bool s.token.black, .bool s.token.idle, .int .i64 s.token.count, .int .i64 s.token.round, .int .i64 s.token.sent, .int .i64 s.token.came]
abbrev linkCells (av kv : Value) (s : LinkS) : Array Value := #[av, .int .i64 s.known, .int .i64 s.came, kv]
abbrev runCells (s : RunS) (kv wv lv yv vv av : Value) : Array Value := #[.int .i64 s.workers, .int .i64 s.room, .int .i64 s.mode, kv, .int .i64 s.kind, .int .i64 s.arg, wv, lv, yv, vv, .int .i64 0, av, .bool s.around, .bool s.over, .bool s.done]
def RowIn {α : Type} (X : Nat -> Prop) (t : TypeId) (sz : Nat) (enc : α -> List Value) (W : World) (v : Value) (l : List α) : Prop :=
 W.ownsRow 0 t sz v l.length (l.flatMap enc) /\ ∀ g, v.ownBlock = some g -> X g
theorem RowIn.kept {α : Type} {X X' Y : Nat -> Prop} {t : TypeId} {sz : Nat} {enc : α -> List Value} {W W' : World} {v : Value} {l : List α} (h : RowIn X t sz enc W v l) (k : Kept Y W W') (hx : ∀ g, g < W.heap.size -> X g -> ¬ Y g /\ X' g) : RowIn X' t sz enc W' v l :=
 ⟨row_kept h.1 k (fun g e => (hx g (h.1.lt g e).2 (h.2 g e)).1) (Nat.le_refl _), fun g e => (hx g (h.1.lt g e).2 (h.2 g e)).2⟩
theorem RowIn.nil {α : Type} (X : Nat -> Prop) (t : TypeId) (sz : Nat) (enc : α -> List Value) (W : World) : RowIn X t sz enc W (.slice none 0 0) [] := ⟨World.ownsRow_nil _ _ _ _, fun g e => by cases e⟩
def WorkerAt (X : Nat -> Prop) (W : World) (p : Nat) (s : WorkerS) : Prop :=
 ∃ tv, BoxAt W p 142 (workerCells tv s) /\ X p /\ RowIn X 76 3 taskEnc W tv s.tasks
theorem WorkerAt.kept {X X' Y : Nat -> Prop} {W W' : World} {p : Nat} {s : WorkerS} (h : WorkerAt X W p s) (k : Kept Y W W') (hx : ∀ g, g < W.heap.size -> X g -> ¬ Y g /\ X' g) : WorkerAt X' W' p s := by
 obtain ⟨tv, h1, h2, h3⟩ := h
 exact ⟨tv, h1.kept k (hx p h1.lt h2).1, (hx p h1.lt h2).2, h3.kept k hx⟩
def LinkAt (X : Nat -> Prop) (W : World) (p : Nat) (s : LinkS) : Prop :=
 ∃ av kv, BoxAt W p 146 (linkCells av kv s) /\ X p /\ RowIn X 140 15 msgEnc W av s.all /\ RowIn X 3 1 intEnc W kv s.kept
theorem LinkAt.kept {X X' Y : Nat -> Prop} {W W' : World} {p : Nat} {s : LinkS} (h : LinkAt X W p s) (k : Kept Y W W') (hx : ∀ g, g < W.heap.size -> X g -> ¬ Y g /\ X' g) : LinkAt X' W' p s := by
 obtain ⟨av, kv, h1, h2, h3, h4⟩ := h
 exact ⟨av, kv, h1.kept k (hx p h1.lt h2).1, (hx p h1.lt h2).2, h3.kept k hx, h4.kept k hx⟩
def LinksAt (part : Nat -> Nat) (i : Nat) (W : World) (v : Value) (qs : List Nat) (ls : List LinkS) : Prop :=
 RowIn (fun b => part b = 9) 144 1 ptrEnc W v qs /\ qs.length = ls.length /\ ∀ j q x, qs[j]? = some q -> ls[j]? = some x -> LinkAt (fun b => part b = 100 + 10 * i + j) W q x
theorem LinksAt.kept {part part' : Nat -> Nat} {Y : Nat -> Prop} {i : Nat} {W W' : World} {v : Value} {qs : List Nat} {ls : List LinkS} (h : LinksAt part i W v qs ls) (k : Kept Y W W') (hx : ∀ g, g < W.heap.size -> part g = 9 \/ 100 <= part g -> ¬ Y g /\ part' g = part g) : LinksAt part' i W' v qs ls := by
 obtain ⟨h1, h2, h3⟩ := h
 refine ⟨h1.kept k (fun g hg e => ⟨(hx g hg (.inl e)).1, (hx g hg (.inl e)).2.trans e⟩), h2, fun j q x hq hxj => (h3 j q x hq hxj).kept k (fun g hg e => ⟨(hx g hg (.inr (by omega))).1, (hx g hg (.inr (by omega))).2.trans e⟩)⟩
theorem KidsAt.mono' {ok ok' : Nat -> Prop} {W : World} {v : Value} {l : List KidS} (h : KidsAt ok W v l) (hx : ∀ b, ok b -> ok' b) : KidsAt ok' W v l := by
 obtain ⟨a, cap, rfl, hc⟩ := h
 refine ⟨a, cap, rfl, fun j c hj => ?_⟩
 obtain ⟨b, o, ha, hok, hb⟩ := hc j c hj
 exact ⟨b, o, ha, hx b hok, hb⟩
theorem KindsAt.mono' {ok ok' : Nat -> Prop} {W : World} {v : Value} {l : List KindS} (h : KindsAt ok W v l) (hx : ∀ b, ok b -> ok' b) : KindsAt ok' W v l := by
 obtain ⟨a, cap, rfl, hc⟩ := h
 refine ⟨a, cap, rfl, fun j c hj => ?_⟩
 obtain ⟨b, o, kv, ha, hok, hb, c0, c1, c2, hk⟩ := hc j c hj
 exact ⟨b, o, kv, ha, hx b hok, hb, c0, c1, c2, hk.mono' hx⟩
def RefAt (part : Nat -> Nat) (W : World) (B : Nat) (s : RunS) : Prop :=
 ∃ (kv wv lv yv vv av : Value) (ps : List Nat) (rows : List (Value × List Nat)),
  BoxAt W B 103 (runCells s kv wv lv yv vv av) /\ part B = 1 /\ KindsAt (fun b => part b = 6) W kv s.ks /\
  (RowIn (fun b => part b = 7) 138 1 ptrEnc W wv ps /\ ps.length = s.W.length /\ ∀ i p x, ps[i]? = some p -> s.W[i]? = some x -> WorkerAt (fun b => part b = 10 + i) W p x) /\
  (RowIn (fun b => part b = 8) 143 1 (fun r : Value × List Nat => [r.1]) W lv rows /\ rows.length = s.links.length /\ ∀ i r ls, rows[i]? = some r -> s.links[i]? = some ls -> LinksAt part i W r.1 r.2 ls) /\
  RowIn (fun b => part b = 2) 140 15 msgEnc W yv s.way /\ RowIn (fun b => part b = 3) 84 2 valEnc W vv s.values /\ RowIn (fun b => part b = 4) 194 4 ansEnc W av s.answers
theorem RefAt.kept {part part' : Nat -> Nat} {Y : Nat -> Prop} {W W' : World} {B : Nat} {s : RunS} (h : RefAt part W B s) (k : Kept Y W W') (hx : ∀ g, g < W.heap.size -> part g ≠ 0 -> part g ≠ 5 -> ¬ Y g /\ part' g = part g) : RefAt part' W' B s := by
 obtain ⟨kv, wv, lv, yv, vv, av, ps, rows, h1, h2, h3, ⟨h4, h5, h6⟩, ⟨h7, h8, h9⟩, h10, h11, h12⟩ := h
 have hg : ∀ (n : Nat), n ≠ 0 -> n ≠ 5 -> ∀ g, g < W.heap.size -> part g = n -> ¬ Y g /\ part' g = n := fun n hn hn5 g hl e => ⟨(hx g hl (by omega) (by omega)).1, (hx g hl (by omega) (by omega)).2.trans e⟩
 have hB := hg 1 (by omega) (by omega) B h1.lt h2
 refine ⟨kv, wv, lv, yv, vv, av, ps, rows, h1.kept k hB.1, hB.2, ?_, ⟨h4.kept k (hg 7 (by omega) (by omega)), h5, fun i p x hp hxi => (h6 i p x hp hxi).kept k (hg _ (by omega) (by omega))⟩, ⟨h7.kept k (hg 8 (by omega) (by omega)), h8, fun i r ls hr hl => (h9 i r ls hr hl).kept k (fun g hl e => hx g hl (by omega) (by omega))⟩, h10.kept k (hg 2 (by omega) (by omega)), h11.kept k (hg 3 (by omega) (by omega)), h12.kept k (hg 4 (by omega) (by omega))⟩
 have h3' := h3.below
 exact (h3'.kept k (fun b hb => (hg 6 (by omega) (by omega) b hb.2 hb.1).1)).mono' (fun b hb => (hg 6 (by omega) (by omega) b hb.2 hb.1).2)
def RefOK (F : Nat -> Prop) (W : World) (B : Nat) (s : RunS) : Prop := ∃ part : Nat -> Nat, (∀ b, part b ≠ 0 -> F b) /\ RefAt part W B s
theorem RefOK.kept {F F' Y : Nat -> Prop} {W W' : World} {B : Nat} {s : RunS} (h : RefOK F W B s) (k : Kept Y W W') (hx : ∀ g, g < W.heap.size -> F g -> ¬ Y g /\ F' g) : RefOK F' W' B s := by
 obtain ⟨part, h1, h2⟩ := h
 refine ⟨fun b => if b < W.heap.size then part b else 0, fun b hb => ?_, h2.kept k (fun g hl hp _ => ⟨(hx g hl (h1 g hp)).1, by simp [hl]⟩)⟩
 by_cases hl : b < W.heap.size
 ·exact (hx b hl (h1 b (by simpa [hl] using hb))).2
 ·simp [hl] at hb
theorem RefOK.later {F : Nat -> Prop} {W W' : World} {B : Nat} {s : RunS} (h : RefOK F W B s) (hk : Below W.heap.size W W') : RefOK F W' B s :=
 h.kept (Kept.of_below hk (X := fun b => W.heap.size <= b) (fun _ _ h => h)) (fun g hl hF => ⟨by omega, hF⟩)
abbrev msgCells (m : MsgS) : Array Value := #[.int .i64 m.src, .int .i64 m.dst, .int .i64 m.no, .int .i64 m.kind, .string m.t.id, .int .i64 m.t.kind, .int .i64 m.t.arg, .string m.v.1, .int .i64 m.v.2, .bool m.black, .bool m.idle, .int .i64 m.count, .int .i64 m.round, .int .i64 m.sent, .int .i64 m.came]
def ext (W : World) (part : Nat -> Nat) (n b : Nat) : Nat := if b < W.heap.size then part b else n
theorem ext_old {W : World} {part : Nat -> Nat} {n b : Nat} (h : b < W.heap.size) : ext W part n b = part b := if_pos h
theorem ext_new {W : World} {part : Nat -> Nat} {n b : Nat} (h : W.heap.size <= b) : ext W part n b = n := if_neg (by omega)
structure Moved (part part' : Nat -> Nat) (W W' : World) : Prop where
 kept : Kept (fun b => part b ≠ 0) W W'
 old : ∀ b, b < W.heap.size -> part' b ≠ 0 -> part b ≠ 0
theorem Moved.trans {p p' p'' : Nat -> Nat} {W W' W'' : World} (h : Moved p p' W W') (k : Moved p' p'' W' W'') : Moved p p'' W W'' :=
 ⟨h.kept.andThen k.kept (fun b hb hp => h.old b hb hp), fun b hb hp => h.old b hb (k.old b (Nat.lt_of_lt_of_le hb h.kept.size) hp)⟩
theorem Moved.of {part : Nat -> Nat} {Y : Nat -> Prop} {W W' : World} (n : Nat) (k : Kept Y W W') (hY : ∀ g, g < W.heap.size -> Y g -> part g ≠ 0) : Moved part (ext W part n) W W' :=
 ⟨k.mono hY, fun b hb h => by rwa [ext_old hb] at h⟩
theorem rowIn_ext {α : Type} {t : TypeId} {sz n : Nat} {enc : α -> List Value} {part : Nat -> Nat} {W W' : World} {v : Value} {l : List α} (hr : W'.ownsRow 0 t sz v l.length (l.flatMap enc)) (ho : ∀ g, v.ownBlock = some g -> part g = n /\ g < W.heap.size \/ W.heap.size <= g) : RowIn (fun b => ext W part n b = n) t sz enc W' v l := by
 refine ⟨hr, fun g e => ?_⟩
 rcases ho g e with ⟨h1, h2⟩ | h1
 ·exact (ext_old h2).trans h1
 ·exact ext_new h1
theorem cells15 {W : World} {b : Nat} {t : TypeId} {m : MsgS} (h : BoxAt W b t (msgCells m)) : W.cell? ⟨b, 0, none⟩ = some (.int .i64 m.src) /\ W.cell? ⟨b, 1, none⟩ = some (.int .i64 m.dst) /\ W.cell? ⟨b, 2, none⟩ = some (.int .i64 m.no) /\ W.cell? ⟨b, 3, none⟩ = some (.int .i64 m.kind) /\ W.cell? ⟨b, 4, none⟩ = some (.string m.t.id) /\ W.cell? ⟨b, 5, none⟩ = some (.int .i64 m.t.kind) /\ W.cell? ⟨b, 6, none⟩ = some (.int .i64 m.t.arg) /\ W.cell? ⟨b, 7, none⟩ = some (.string m.v.1) /\ W.cell? ⟨b, 8, none⟩ = some (.int .i64 m.v.2) /\ W.cell? ⟨b, 9, none⟩ = some (.bool m.black) /\ W.cell? ⟨b, 10, none⟩ = some (.bool m.idle) /\ W.cell? ⟨b, 11, none⟩ = some (.int .i64 m.count) /\ W.cell? ⟨b, 12, none⟩ = some (.int .i64 m.round) /\ W.cell? ⟨b, 13, none⟩ = some (.int .i64 m.sent) /\ W.cell? ⟨b, 14, none⟩ = some (.int .i64 m.came) :=
 ⟨h.cell (o := 0) rfl, h.cell (o := 1) rfl, h.cell (o := 2) rfl, h.cell (o := 3) rfl, h.cell (o := 4) rfl, h.cell (o := 5) rfl, h.cell (o := 6) rfl, h.cell (o := 7) rfl, h.cell (o := 8) rfl, h.cell (o := 9) rfl, h.cell (o := 10) rfl, h.cell (o := 11) rfl, h.cell (o := 12) rfl, h.cell (o := 13) rfl, h.cell (o := 14) rfl⟩
def tasksS (s : RunS) (i : Int) : List TaskS × Int := if i < 0 \/ s.workers <= i then ([], 7) else (((s.W[i.toNat]?).map WorkerS.tasks).getD [], 0)
structure Fits (s : RunS) : Prop where
 len : (s.W.length : Int) = s.workers
 two : 2 <= s.workers
 five : s.workers <= 5
 rmin : 1 <= s.room
 rmax : s.room <= 20
 few : ∀ x ∈ s.W, (x.tasks.length : Int) <= s.room
 prog : progB s.ks s.kind s.arg = true
 good : ∀ x ∈ s.W, ∀ t ∈ x.tasks, Good s.ks t /\ t.arg <= 12
theorem ref_tasks_nil (i : Int) (w : World) : Calls Tryz.prog 38 #[.pointer none, .int .i64 i] w fun e w' => e = .returned (.tuple #[.slice none 0 0, .int .i64 1]) /\ w' = w := by
 go_enter Tryz.func38, Tryz.ntmps38
 go_wp2_with fail
 go_ret2
 exact ⟨rfl, rfl⟩
set_option maxHeartbeats 2000000 in
theorem ref_tasks_calls (F : Nat -> Prop) (B : Nat) (s : RunS) (i : Int) (w : World) (hr : RefOK F w B s) (hf : Fits s) :
  Calls Tryz.prog 38 #[.pointer (some ⟨B, 0, none⟩), .int .i64 i] w fun e w' => ∃ v, e = .returned (.tuple #[v, .int .i64 (tasksS s i).2]) /\
   w'.ownsRow w.heap.size 76 3 v (tasksS s i).1.length ((tasksS s i).1.flatMap taskEnc) /\ Below w.heap.size w w' := by
 obtain ⟨i1, hi1, hy0, hy1, hy2⟩ := info_parts infoTask
 obtain ⟨part, -, kv, wv, lv, yv, vv, av, ps, rows, hb, -, -, ⟨hw, hpl, hwk⟩, -⟩ := hr
 have b0 := hb.cell (o := 0) rfl
 have b6 := hb.cell (o := 6) rfl
 have hBl := hb.lt
 clear hb
 have hlen := hf.len
 go_enter Tryz.func38, Tryz.ntmps38
 by_cases h1 : i < 0
 ·have ht : tasksS s i = ([], 7) := by simp [tasksS, h1]
  rw [ht]
  clear ht
  go_wp2_with fail
  go_ret2
  exact ⟨_, rfl, World.ownsRow_nil _ _ _ _, Below.refl _ _⟩
 by_cases h2 : s.workers <= i
 ·have ht : tasksS s i = ([], 7) := by simp [tasksS, h2]
  rw [ht]
  clear ht
  have h3 : ¬ i < s.workers := by omega
  go_wp2_with fail
  go_ret2
  exact ⟨_, rfl, World.ownsRow_nil _ _ _ _, Below.refl _ _⟩
 obtain ⟨k, rfl⟩ := Int.eq_ofNat_of_zero_le (show 0 <= i by omega)
 have hk : k < s.W.length := by omega
 obtain ⟨x, hx⟩ : ∃ x, s.W[k]? = some x := ⟨_, List.getElem?_eq_getElem hk⟩
 obtain ⟨p, hp⟩ : ∃ p, ps[k]? = some p := ⟨_, List.getElem?_eq_getElem (by omega)⟩
 have ht : tasksS s (k : Int) = (x.tasks, 0) := by simp [tasksS, h2, hx]
 rw [ht]
 have hxl : (x.tasks.length : Int) <= 20 := by
  have := hf.few x (List.mem_of_getElem? hx)
  have := hf.rmax
  omega
 obtain ⟨tv, hbp, -, hrow, -⟩ := hwk k p x hp hx
 have p0 := hbp.cell (o := 0) rfl
 obtain ⟨wa, wc, rfl, hwc⟩ := row_slice hw.1
 obtain ⟨g, rfl, -, hgl, cg⟩ := hwc k _ (by have := flat_get (sz := 1) (enc := ptrEnc) (fun _ => rfl) ps k p 0 (.pointer (some ⟨p, 0, none⟩)) hp rfl; rw [Nat.mul_one, Nat.add_zero] at this; exact this)
 obtain ⟨ta, tc, rfl⟩ := row_form hrow
 have HROW : Hid (w.ownsRow 0 76 3 (.slice ta x.tasks.length tc) x.tasks.length (x.tasks.flatMap taskEnc)) := hrow
 have j1 : (0 : Int) <= (k : Int) := by omega
 have j2 : (k : Int) < (ps.length : Int) := by omega
 clear ht hrow hbp hwc hw hwk hp hx hf
 go_wp2_with (at_builtin; refine wpList_append_row rfl _ _ _ rfl 76 i1 _ 3 32 Tryz.underlying52 hi1 hy0 hy1 hy2 rfl (by omega) rfl 0 (.slice ta x.tasks.length tc) x.tasks.length (x.tasks.flatMap taskEnc) rfl HROW.out (flat_one taskEnc_one _) (by unfold maxLen; omega) (by omega) ?_; intro wv' w1 hrow1 hk1)
 go_ret2
 exact ⟨_, rfl, hrow1, hk1.below (Nat.le_refl _) (fun _ h => h.elim)⟩
end Go.Proofs.YteahdfeialekbaaGreatDoor
