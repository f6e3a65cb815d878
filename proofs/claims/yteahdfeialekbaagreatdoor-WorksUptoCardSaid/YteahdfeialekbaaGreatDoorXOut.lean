/-
  What is kept at a link's end in a map by numbers: definitions and small facts on them.
-/
import Derived.Test.YteahdfeialekbaaGreatDoorRefTasks
import Derived.Maps.OwnSet
import Derived.Maps.OwnIn
import Derived.Test.YteahdfeialekbaaGreatDoorStillB
import Derived.Conc.SmallLaws
import Derived.Conc.LoneCalls
import Derived.RangeFuncNested
import Derived.Orders
import Derived.Test.YteahdfeialekbaaGreatDoorLeaves
import Derived.OwnWalkIn
namespace Go.Proofs.YteahdfeialekbaaGreatDoor
open Go Go.RowKit Go.Maps Go.WideMaps
theorem intKeyed : Keyed Tryz.prog 3 := int_keyed Tryz.underlying3
def heldElem (v : Value) : Option (DataW Value × List MemPlace) := some (.held v, [])
def numL (n : Int) : Lit := .int .i64 n
def InMap (W : World) (M : Nat) (came : Int) (kept : List Int) (all : List MsgS) : Prop :=
 ∃ D : DataW Value, W.ownsMap Tryz.prog 3 heldElem M (Maps.size D) D /\ Maps.size D <= kept.length /\ (∀ n, Maps.has D (numL n) = decide (came < n /\ n ∈ kept)) /\
  ∀ n, came < n -> n ∈ kept -> ∃ m, all[(n - 1).toNat]? = some m /\ ∀ z, D.atKey (numL n) z = .held (.agg (msgCells m))
theorem InMap.lt {W : World} {M : Nat} {came : Int} {kept : List Int} {all : List MsgS} (h : InMap W M came kept all) : M < W.heap.size := by
 obtain ⟨D, h, _⟩ := h
 exact World.ownsMap.lt h
theorem InMap.kept {Y : Nat -> Prop} {W W' : World} {M : Nat} {came : Int} {kp : List Int} {all : List MsgS} (h : InMap W M came kp all) (k : Kept Y W W') (hM : ¬ Y M) : InMap W' M came kp all := by
 obtain ⟨D, ⟨es, clock, hb, hf⟩, h2⟩ := h
 exact ⟨D, ⟨es, clock, k.heap hb hM, hf⟩, h2⟩
theorem InMap.more {W : World} {M : Nat} {came : Int} {kept : List Int} {all : List MsgS} (h : InMap W M came kept all) (L : List MsgS) : InMap W M came kept (all ++ L) := by
 obtain ⟨D, h1, h2, h3, h4⟩ := h
 refine ⟨D, h1, h2, h3, fun n hn hk => ?_⟩
 obtain ⟨m, hm, hz⟩ := h4 n hn hk
 exact ⟨m, by rw [List.getElem?_append_left (List.getElem?_eq_some_iff.1 hm).1]; exact hm, hz⟩
theorem ownsMap_size {W : World} {M n : Nat} {D : DataW Value} (h : W.ownsMap Tryz.prog 3 heldElem M n D) : W.ownsMap Tryz.prog 3 heldElem M (Maps.size D) D := by
 obtain ⟨es, clock, hb, hf, hs, hD⟩ := h
 refine ⟨es, clock, hb, hf, ?_, hD⟩
 rw [hD]
 show es.size <= List.length _
 rw [length_sorted]; simp
theorem numL_key (n : Int) : WideAt.IsKeyLit (numL n) := trivial
theorem numL_ne {a b : Int} (h : a ≠ b) : numL a ≠ numL b := fun e => h (by cases e; rfl)
theorem InMap.new (W : World) : InMap (W.alloc (.map #[] 0)) W.heap.size 0 [] [] :=
 ⟨.map [], World.ownsMap_made W _ _ _, by simp [Maps.size], fun n => by simp [Maps.has], fun n _ h => by simp at h⟩
theorem InMap.put {W W' : World} {M N : Nat} {came : Int} {kept : List Int} {all : List MsgS} {m : MsgS} {n : Int} {D : DataW Value} (h1 : W.ownsMap Tryz.prog 3 heldElem M (Maps.size D) D) (h2 : Maps.size D <= kept.length) (h3 : ∀ n, Maps.has D (numL n) = decide (came < n /\ n ∈ kept))
  (h4 : ∀ n, came < n -> n ∈ kept -> ∃ m, all[(n - 1).toNat]? = some m /\ ∀ z, D.atKey (numL n) z = .held (.agg (msgCells m))) (h : W'.ownsMap Tryz.prog 3 heldElem M N (D.put (numL n) (.held (.agg (msgCells m))))) (hn : came < n) (hm : all[(n - 1).toNat]? = some m) :
  InMap W' M came (if kept.any (· == n) = true then kept else kept ++ [n]) all := by
 have ht := h1.tidy intKeyed
 have hany : kept.any (· == n) = true ↔ n ∈ kept := by simp
 have hmem : ∀ k, k ∈ (if kept.any (· == n) = true then kept else kept ++ [n]) ↔ k ∈ kept \/ k = n := fun k => by
  split
  ·rename_i e
   exact ⟨.inl, fun h => by rcases h with h | rfl; exact h; exact hany.1 e⟩
  ·simp
 refine ⟨_, ownsMap_size h, ?_, fun k => ?_, fun k hk hkk => ?_⟩
 ·rw [size_put ht, h3]
  by_cases e : n ∈ kept
  ·rw [if_pos (by simp [hn, e]), if_pos (hany.2 e)]; exact h2
  ·rw [if_neg (by simp [e]), if_neg (fun e' => e (hany.1 e')), List.length_append]; simpa using h2
 ·by_cases e : k = n
  ·subst e
   rw [has_put_same ht.isMap (numL_key _)]
   exact (decide_eq_true ⟨hn, (hmem k).2 (.inr rfl)⟩).symm
  ·rw [has_put_other (numL_ne e), h3 k]
   simp only [hmem, e, or_false]
 ·by_cases e : k = n
  ·subst e
   exact ⟨m, hm, fun z => atKey_put_same ht.isMap (numL_key _) _ _⟩
  ·obtain ⟨m', h5, h6⟩ := h4 k hk (by rcases (hmem k).1 hkk with h | h; exact h; exact absurd h e)
   exact ⟨m', h5, fun z => by rw [atKey_put_other (numL_ne e)]; exact h6 z⟩
theorem InMap.step {W W' : World} {M N : Nat} {came : Int} {kept : List Int} {all : List MsgS} {D : DataW Value} (h1 : W.ownsMap Tryz.prog 3 heldElem M (Maps.size D) D) (h2 : Maps.size D <= kept.length) (h3 : ∀ n, Maps.has D (numL n) = decide (came < n /\ n ∈ kept))
  (h4 : ∀ n, came < n -> n ∈ kept -> ∃ m, all[(n - 1).toNat]? = some m /\ ∀ z, D.atKey (numL n) z = .held (.agg (msgCells m))) (h : W'.ownsMap Tryz.prog 3 heldElem M N (D.del (numL (came + 1)))) :
  InMap W' M (came + 1) kept all := by
 have ht := h1.tidy intKeyed
 refine ⟨_, ownsMap_size h, ?_, fun k => ?_, fun k hk hkk => ?_⟩
 ·have := size_del (k := numL (came + 1)) ht; omega
 ·by_cases e : k = came + 1
  ·subst e
   rw [has_del_same]
   simp
  ·rw [has_del_other (numL_ne e), h3 k]
   have : came < k ↔ came + 1 < k := by omega
   simp only [this]
 ·obtain ⟨m', h5, h6⟩ := h4 k (by omega) hkk
  exact ⟨m', h5, fun z => by rw [atKey_del_other (numL_ne (by omega))]; exact h6 z⟩
end Go.Proofs.YteahdfeialekbaaGreatDoor
namespace Go.Proofs.YteahdfeialekbaaGreatDoor
open Go Go.RowKit
structure XW where
 T : Nat
 asked : Bool
 outv : Value
 inv : Value
 sent : Int
 came : Int
 black : Bool
def xwEnc (x : XW) : List Value := [.pointer (some ⟨x.T, 0, none⟩), .bool x.asked, x.outv, x.inv, .int .i64 x.sent, .int .i64 x.came, .bool x.black]
structure XW.Notes (x : XW) (y : WorkerS) : Prop where
 asked : x.asked = y.asked
 sent : x.sent = y.sent
 came : x.came = y.came
 black : x.black = y.black
def TaskListAt (X : Nat -> Prop) (W : World) (T : Nat) (room : Int) (l : List TaskS) : Prop :=
 ∃ tv, BoxAt W T 179 #[tv, .int .i64 room] /\ X T /\ RowIn X 76 3 taskEnc W tv l
theorem TaskListAt.kept {X X' Y : Nat -> Prop} {W W' : World} {T : Nat} {room : Int} {l : List TaskS} (h : TaskListAt X W T room l) (k : Kept Y W W') (hx : ∀ g, g < W.heap.size -> X g -> ¬ Y g /\ X' g) : TaskListAt X' W' T room l := by
 obtain ⟨tv, h1, h2, h3⟩ := h
 exact ⟨tv, h1.kept k (hx T h1.lt h2).1, (hx T h1.lt h2).2, h3.kept k hx⟩
def ChanAt (W : World) (c cap : Nat) (l : List MsgS) : Prop := ∃ s r, W.heap[c]? = some (.chan cap (l.map (fun m => Value.agg (msgCells m))).toArray false s r false)
theorem ChanAt.kept {Y : Nat -> Prop} {W W' : World} {c cap : Nat} {l : List MsgS} (h : ChanAt W c cap l) (k : Kept Y W W') (hc : ¬ Y c) : ChanAt W' c cap l := by
 obtain ⟨s, r, h⟩ := h
 exact ⟨s, r, k.heap h hc⟩
theorem ChanAt.lt {W : World} {c cap : Nat} {l : List MsgS} (h : ChanAt W c cap l) : c < W.heap.size := by
 obtain ⟨s, r, h⟩ := h
 exact (Array.getElem?_eq_some_iff.1 h).1
def LinkS.left (l : LinkS) : List MsgS := l.all.drop l.known.toNat
def OutAt (X : Nat -> Prop) (W : World) (q : Nat) (l : LinkS) : Prop :=
 ∃ c cap, BoxAt W q 168 #[.int .i64 (l.all.length : Int), .chan (some c)] /\ X q /\ ChanAt W c cap l.left /\ X c /\ 4 <= cap /\ cap <= 4 + 2 * l.all.length /\ l.left.length <= cap
theorem OutAt.kept {X X' Y : Nat -> Prop} {W W' : World} {q : Nat} {l : LinkS} (h : OutAt X W q l) (k : Kept Y W W') (hx : ∀ g, g < W.heap.size -> X g -> ¬ Y g /\ X' g) : OutAt X' W' q l := by
 obtain ⟨c, cap, h1, h2, h3, h4, h5⟩ := h
 exact ⟨c, cap, h1.kept k (hx q h1.lt h2).1, (hx q h1.lt h2).2, h3.kept k (hx c h3.lt h4).1, (hx c h3.lt h4).2, h5⟩
def optEnc (q : Option Nat) : List Value := [.pointer (q.map (fun b => ⟨b, 0, none⟩))]
def EndAt (part : Nat -> Nat) (i j : Nat) (W : World) (l : LinkS) : Option Nat -> Prop
 | none => j = i /\ l.all = []
 | some q => j ≠ i /\ OutAt (fun b => part b = 100 + 10 * i + j) W q l
def XLinksAt (part : Nat -> Nat) (i : Nat) (W : World) (v : Value) (ls : List LinkS) : Prop :=
 ∃ qs : List (Option Nat), RowIn (fun b => part b = 9) 198 1 optEnc W v qs /\ qs.length = ls.length /\ ∀ j q l, qs[j]? = some q -> ls[j]? = some l -> EndAt part i j W l q
theorem EndAt.kept {part part' : Nat -> Nat} {Y : Nat -> Prop} {i j : Nat} {W W' : World} {l : LinkS} {q : Option Nat} (h : EndAt part i j W l q) (k : Kept Y W W') (hx : ∀ g, g < W.heap.size -> part g = 100 + 10 * i + j -> ¬ Y g /\ part' g = 100 + 10 * i + j) : EndAt part' i j W' l q := by
 cases q with
 | none => exact h
 | some q => exact ⟨h.1, h.2.kept k hx⟩
theorem XLinksAt.kept {part part' : Nat -> Nat} {Y : Nat -> Prop} {i : Nat} {W W' : World} {v : Value} {ls : List LinkS} (h : XLinksAt part i W v ls) (k : Kept Y W W') (hx : ∀ g, g < W.heap.size -> part g = 9 \/ (100 + 10 * i <= part g /\ part g < 100 + 10 * i + ls.length) -> ¬ Y g /\ part' g = part g) : XLinksAt part' i W' v ls := by
 obtain ⟨qs, h1, h2, h3⟩ := h
 refine ⟨qs, h1.kept k (fun g hg e => ⟨(hx g hg (.inl e)).1, (hx g hg (.inl e)).2.trans e⟩), h2, fun j q l hq hl => (h3 j q l hq hl).kept k (fun g hg e => ?_)⟩
 have hj := (List.getElem?_eq_some_iff.1 hl).1
 exact ⟨(hx g hg (.inr (by omega))).1, (hx g hg (.inr (by omega))).2.trans e⟩
def InAt (X : Nat -> Prop) (W : World) (q : Nat) (l : LinkS) : Prop :=
 ∃ M, BoxAt W q 173 #[.int .i64 l.came, .map (some M)] /\ X q /\ InMap W M l.came l.kept l.all /\ X M
theorem InAt.kept {X X' Y : Nat -> Prop} {W W' : World} {q : Nat} {l : LinkS} (h : InAt X W q l) (k : Kept Y W W') (hx : ∀ g, g < W.heap.size -> X g -> ¬ Y g /\ X' g) : InAt X' W' q l := by
 obtain ⟨M, h1, h2, h3, h4⟩ := h
 exact ⟨M, h1.kept k (hx q h1.lt h2).1, (hx q h1.lt h2).2, h3.kept k (hx M h3.lt h4).1, (hx M h3.lt h4).2⟩
structure InLike (l l' : LinkS) : Prop where
 came : l'.came = l.came
 kept : l'.kept = l.kept
 all : ∃ L, l'.all = l.all ++ L
theorem InLike.refl (l : LinkS) : InLike l l := ⟨rfl, rfl, [], by simp⟩
theorem InAt.like {X : Nat -> Prop} {W : World} {q : Nat} {l l' : LinkS} (h : InAt X W q l) (hl : InLike l l') : InAt X W q l' := by
 obtain ⟨M, h1, h2, h3, h4⟩ := h
 obtain ⟨L, hL⟩ := hl.all
 exact ⟨M, by rw [hl.came]; exact h1, h2, by rw [hl.came, hl.kept, hL]; exact h3.more L, h4⟩
def InEndAt (part : Nat -> Nat) (i j : Nat) (W : World) (l : LinkS) : Option Nat -> Prop
 | none => j = i
 | some q => j ≠ i /\ InAt (fun b => part b = 200 + 10 * i + j) W q l
theorem InEndAt.kept {part part' : Nat -> Nat} {Y : Nat -> Prop} {i j : Nat} {W W' : World} {l : LinkS} {q : Option Nat} (h : InEndAt part i j W l q) (k : Kept Y W W') (hx : ∀ g, g < W.heap.size -> part g = 200 + 10 * i + j -> ¬ Y g /\ part' g = 200 + 10 * i + j) : InEndAt part' i j W' l q := by
 cases q with
 | none => exact h
 | some q => exact ⟨h.1, h.2.kept k hx⟩
theorem InEndAt.like {part : Nat -> Nat} {i j : Nat} {W : World} {l l' : LinkS} {q : Option Nat} (h : InEndAt part i j W l q) (hl : InLike l l') : InEndAt part i j W l' q := by
 cases q with
 | none => exact h
 | some q => exact ⟨h.1, h.2.like hl⟩
def XInsAt (part : Nat -> Nat) (i : Nat) (W : World) (v : Value) (links : List (List LinkS)) : Prop :=
 ∃ qs : List (Option Nat), RowIn (fun b => part b = 8) 199 1 optEnc W v qs /\ qs.length = links.length /\ ∀ j q ls l, qs[j]? = some q -> links[j]? = some ls -> ls[i]? = some l -> InEndAt part i j W l q
theorem XInsAt.kept {part part' : Nat -> Nat} {Y : Nat -> Prop} {i : Nat} {W W' : World} {v : Value} {ls : List (List LinkS)} (h : XInsAt part i W v ls) (k : Kept Y W W') (hx : ∀ g, g < W.heap.size -> part g = 8 \/ (200 + 10 * i <= part g /\ part g < 200 + 10 * i + ls.length) -> ¬ Y g /\ part' g = part g) : XInsAt part' i W' v ls := by
 obtain ⟨qs, h1, h2, h3⟩ := h
 refine ⟨qs, h1.kept k (fun g hg e => ⟨(hx g hg (.inl e)).1, (hx g hg (.inl e)).2.trans e⟩), h2, fun j q row l hq hr hl => (h3 j q row l hq hr hl).kept k (fun g hg e => ?_)⟩
 have hj := (List.getElem?_eq_some_iff.1 hr).1
 exact ⟨(hx g hg (.inr (by omega))).1, (hx g hg (.inr (by omega))).2.trans e⟩
abbrev xrunCells (s : RunS) (kv wv yv : Value) (M : Nat) : Array Value := #[kv, .int .i64 s.kind, .int .i64 s.arg, wv, yv, .map (some M), .bool s.over]
def KeptAt (part : Nat -> Nat) (W : World) (M : Nat) (vs : List (ByteArray × Int)) : Prop := ∃ D : DataW Unit, MapIs W M D /\ part M = 3 /\ Maps.size D <= vs.length
theorem KeptAt.lt {part : Nat -> Nat} {W : World} {M : Nat} {vs : List (ByteArray × Int)} (h : KeptAt part W M vs) : M < W.heap.size := by
 obtain ⟨D, h, _⟩ := h
 exact h.lt
theorem KeptAt.is {part : Nat -> Nat} {W : World} {M : Nat} {vs : List (ByteArray × Int)} (h : KeptAt part W M vs) : part M = 3 := by
 obtain ⟨D, _, h, _⟩ := h
 exact h
theorem KeptAt.kept {part part' : Nat -> Nat} {Y : Nat -> Prop} {W W' : World} {M : Nat} {vs : List (ByteArray × Int)} (h : KeptAt part W M vs) (k : Kept Y W W') (hY : ¬ Y M) (hp : part' M = part M) : KeptAt part' W' M vs := by
 obtain ⟨D, h1, h2, h3⟩ := h
 exact ⟨D, h1.kept k hY, hp.trans h2, h3⟩
structure XAtO (part : Nat -> Nat) (W : World) (B : Nat) (s : RunS) (kv wv yv : Value) (M : Nat) (xs : List XW) : Prop where
 box : BoxAt W B 127 (xrunCells s kv wv yv M)
 pB : part B = 1
 kinds : KindsAt (fun b => part b = 6) W kv s.ks
 wrow : RowIn (fun b => part b = 7) 136 7 xwEnc W wv xs
 wlen : xs.length = s.W.length
 wat : ∀ i x y, xs[i]? = some x -> s.W[i]? = some y -> x.Notes y /\ TaskListAt (fun b => part b = 10 + i) W x.T s.room y.tasks
 llen : s.links.length = s.W.length
 lrow : ∀ ls ∈ s.links, ls.length = s.W.length
 five : s.W.length <= 5
 lat : ∀ i x ls, xs[i]? = some x -> s.links[i]? = some ls -> XLinksAt part i W x.outv ls
 iat : ∀ i x, xs[i]? = some x -> XInsAt part i W x.inv s.links
 yrow : RowIn (fun b => part b = 2) 140 15 msgEnc W yv s.way
 vals : KeptAt part W M s.values
def XAt (part : Nat -> Nat) (W : World) (B : Nat) (s : RunS) : Prop := ∃ kv wv yv M xs, XAtO part W B s kv wv yv M xs
structure XRest (n : Nat) (part' : Nat -> Nat) (W' : World) (s : RunS) (kv wv yv : Value) (M : Nat) (xs : List XW) : Prop where
 kinds : n ≠ 6 -> KindsAt (fun b => part' b = 6) W' kv s.ks
 wrow : n ≠ 7 -> RowIn (fun b => part' b = 7) 136 7 xwEnc W' wv xs
 wat : ∀ i x y, n ≠ 10 + i -> xs[i]? = some x -> s.W[i]? = some y -> x.Notes y /\ TaskListAt (fun b => part' b = 10 + i) W' x.T s.room y.tasks
 lat : ∀ i x ls, n ≠ 9 -> n < 100 + 10 * i \/ 100 + 10 * i + ls.length <= n -> xs[i]? = some x -> s.links[i]? = some ls -> XLinksAt part' i W' x.outv ls
 iat : ∀ i x, n ≠ 8 -> n < 200 + 10 * i \/ 200 + 10 * i + s.links.length <= n -> xs[i]? = some x -> XInsAt part' i W' x.inv s.links
 yrow : n ≠ 2 -> RowIn (fun b => part' b = 2) 140 15 msgEnc W' yv s.way
 vals : n ≠ 3 -> KeptAt part' W' M s.values
theorem XAtO.rest {part part' : Nat -> Nat} {Y : Nat -> Prop} {W W' : World} {B M : Nat} {s : RunS} {kv wv yv : Value} {xs : List XW} (h : XAtO part W B s kv wv yv M xs) (n : Nat) (k : Kept Y W W') (hp : ∀ g, g < W.heap.size -> part' g = part g) (hY : ∀ g, g < W.heap.size -> Y g -> part g = 1 \/ part g = n) : XRest n part' W' s kv wv yv M xs := by
 have hg : ∀ t, t ≠ 1 -> n ≠ t -> ∀ g, g < W.heap.size -> part g = t -> ¬ Y g /\ part' g = t := fun t h1 hn g hl e => ⟨fun hy => by have := hY g hl hy; omega, (hp g hl).trans e⟩
 refine ⟨fun hn => ?_, fun hn => h.wrow.kept k (hg 7 (by omega) hn), fun i x y hn hx hy => ⟨(h.wat i x y hx hy).1, (h.wat i x y hx hy).2.kept k (hg _ (by omega) hn)⟩, fun i x ls h9 hn hx hl => (h.lat i x ls hx hl).kept k (fun g hl e => ?_), fun i x h8 hn hx => (h.iat i x hx).kept k (fun g hl e => ?_), fun hn => h.yrow.kept k (hg 2 (by omega) hn), fun hn => h.vals.kept k (hg 3 (by omega) hn M h.vals.lt h.vals.is).1 (hp M h.vals.lt)⟩
 ·exact (h.kinds.below.kept k (fun b hb => (hg 6 (by omega) hn b hb.2 hb.1).1)).mono' (fun b hb => (hg 6 (by omega) hn b hb.2 hb.1).2)
 ·exact ⟨fun hy => by have := hY g hl hy; omega, hp g hl⟩
 ·exact ⟨fun hy => by have := hY g hl hy; omega, hp g hl⟩
theorem XAtO.kept {part part' : Nat -> Nat} {Y : Nat -> Prop} {W W' : World} {B M : Nat} {s : RunS} {kv wv yv : Value} {xs : List XW} (h : XAtO part W B s kv wv yv M xs) (k : Kept Y W W') (hx : ∀ g, g < W.heap.size -> part g ≠ 0 -> ¬ Y g /\ part' g = part g) : XAtO part' W' B s kv wv yv M xs := by
 have hg : ∀ (n : Nat), n ≠ 0 -> ∀ g, g < W.heap.size -> part g = n -> ¬ Y g /\ part' g = n := fun n hn g hl e => ⟨(hx g hl (by omega)).1, (hx g hl (by omega)).2.trans e⟩
 refine ⟨h.box.kept k (hg 1 (by omega) B h.box.lt h.pB).1, (hg 1 (by omega) B h.box.lt h.pB).2, ?_, h.wrow.kept k (hg 7 (by omega)), h.wlen, fun i x y hx hy => ⟨(h.wat i x y hx hy).1, (h.wat i x y hx hy).2.kept k (hg _ (by omega))⟩, h.llen, h.lrow, h.five, fun i x ls h1 h2 => (h.lat i x ls h1 h2).kept k (fun g hl e => hx g hl (by omega)), fun i x h1 => (h.iat i x h1).kept k (fun g hl e => hx g hl (by omega)), h.yrow.kept k (hg 2 (by omega)), h.vals.kept k (hg 3 (by omega) M h.vals.lt h.vals.is).1 ((hg 3 (by omega) M h.vals.lt h.vals.is).2.trans h.vals.is.symm)⟩
 exact (h.kinds.below.kept k (fun b hb => (hg 6 (by omega) b hb.2 hb.1).1)).mono' (fun b hb => (hg 6 (by omega) b hb.2 hb.1).2)
theorem XAt.kept {part part' : Nat -> Nat} {Y : Nat -> Prop} {W W' : World} {B : Nat} {s : RunS} (h : XAt part W B s) (k : Kept Y W W') (hx : ∀ g, g < W.heap.size -> part g ≠ 0 -> ¬ Y g /\ part' g = part g) : XAt part' W' B s := by
 obtain ⟨kv, wv, yv, M, xs, h⟩ := h
 exact ⟨kv, wv, yv, M, xs, h.kept k hx⟩
def XOK (F : Nat -> Prop) (W : World) (B : Nat) (s : RunS) : Prop := ∃ part : Nat -> Nat, (∀ b, part b ≠ 0 -> F b) /\ XAt part W B s
theorem XOK.kept {F F' Y : Nat -> Prop} {W W' : World} {B : Nat} {s : RunS} (h : XOK F W B s) (k : Kept Y W W') (hx : ∀ g, g < W.heap.size -> F g -> ¬ Y g /\ F' g) : XOK F' W' B s := by
 obtain ⟨part, h1, h2⟩ := h
 refine ⟨fun b => if b < W.heap.size then part b else 0, fun b hb => ?_, h2.kept k (fun g hl hp => ⟨(hx g hl (h1 g hp)).1, by simp [hl]⟩)⟩
 by_cases hl : b < W.heap.size
 ·exact (hx b hl (h1 b (by simpa [hl] using hb))).2
 ·simp [hl] at hb
theorem XOK.later {F : Nat -> Prop} {W W' : World} {B : Nat} {s : RunS} (h : XOK F W B s) (hk : Below W.heap.size W W') : XOK F W' B s :=
 h.kept (Kept.of_below hk (X := fun b => W.heap.size <= b) (fun _ _ h => h)) (fun g hl hF => ⟨by omega, hF⟩)
theorem boxAt_at (W : World) (t : TypeId) (cs : Array Value) (g : Nat) (h : W.heap.size = g) : BoxAt (W.alloc (.cells cs t)) g t cs := by subst h; exact BoxAt.new W t cs
theorem row_of_cells {α : Type} {sz t base n g : Nat} {enc : α -> List Value} {W : World} {cur : Array Value} {xs : List α} (hsz : 0 < sz) (he : ∀ x, (enc x).length = sz) (hb : BoxAt W g t cur) (hg : base <= g) (hcs : cur.size = n * sz) (hx : xs.length = n) (hn : n <= maxLen)
  (hc : ∀ j x i u, xs[j]? = some x -> (enc x)[i]? = some u -> cur[j * sz + i]? = some u) : W.ownsRow base t sz (.slice (some ⟨g, 0, none⟩) n n) n (xs.flatMap enc) := by
 have hl : (xs.flatMap enc).length = n * sz := by rw [flat_length he, hx]
 have hcur : cur.toList = xs.flatMap enc := by
  refine List.ext_getElem? fun i => ?_
  rcases Nat.lt_or_ge i (n * sz) with hi | hi
  ·have h1 : i / sz < n := (Nat.div_lt_iff_lt_mul hsz).2 hi
   have h2 : i % sz < sz := Nat.mod_lt _ hsz
   have e : i / sz * sz + i % sz = i := by rw [Nat.mul_comm]; exact Nat.div_add_mod _ _
   obtain ⟨x, hxx⟩ : ∃ x, xs[i / sz]? = some x := ⟨_, List.getElem?_eq_getElem (by omega)⟩
   obtain ⟨u, hu⟩ : ∃ u, (enc x)[i % sz]? = some u := ⟨_, List.getElem?_eq_getElem (by rw [he]; exact h2)⟩
   have h3 := hc _ x _ u hxx hu
   have h4 := flat_get he xs _ x _ u hxx hu
   rw [e] at h3 h4
   rw [h4, Array.getElem?_toList, h3]
  ·rw [List.getElem?_eq_none (by rw [Array.length_toList, hcs]; exact hi), List.getElem?_eq_none (by omega)]
 refine ⟨hl, .inr ⟨g, n, cur, rfl, hg, hb, Nat.le_refl _, hn, hcs, ?_⟩⟩
 rw [hcur, <- hl, List.take_length]
set_option maxHeartbeats 1000000 in
theorem tasksNew_calls (room : Int) (v : Value) (l : List TaskS) (w : World) (hv : ListAt 3 taskEnc w v l) (hl : l.length <= 1000000) :
  Calls Tryz.prog 114 #[.int .i64 room, v] w fun e w' => ∃ T tv, e = .returned (.pointer (some ⟨T, 0, none⟩)) /\ BoxAt w' T 179 #[tv, .int .i64 room] /\ w.heap.size <= T /\ w'.ownsRow w.heap.size 76 3 tv l.length (l.flatMap taskEnc) /\ Below w.heap.size w w' := by
 have HC := hid_of (cloneT_calls v l w hv hl)
 obtain ⟨va, vc, rfl, -⟩ := hv
 go_enter Tryz.func114, Tryz.ntmps114
 go_wp2_with (go_at_call 154; refine HC.out.mono ?_; rintro e w1 ⟨v1, rfl, hrow1, hb1⟩; obtain ⟨a1, c1, rfl⟩ := row_form hrow1)
 go_ret
 exact ⟨w1.heap.size, _, rfl, BoxAt.new w1 _ _, hb1.size, row_kept hrow1 (Kept.alloc _ _ _) (fun _ _ h => h) (Nat.le_refl _), hb1.alloc hb1.size _⟩
theorem mkChan (w : World) : (Instr.makeChan 166 (.int .i64 4)).run Tryz.prog w = .ok (.chan (some w.heap.size)) (w.alloc (.chan 4 #[] false 0 0 false)) := by
 have hi := infoMessage
 cases h : Tryz.prog.info? 140 with
 | none => rw [h] at hi; cases hi
 | some i =>
  rw [h] at hi
  simp at hi
  exact Conc.run_makeChan Tryz.underlying166 h .i64 4 (by omega) (by rw [hi.2.2]; omega)
attribute [local go_sem] mkChan
theorem chan_new (W : World) (cap : Nat) : ChanAt (W.alloc (.chan cap #[] false 0 0 false)) W.heap.size cap [] := ⟨0, 0, World.alloc_heap_new W _⟩
theorem ChanAt.below {W W' : World} {c cap : Nat} {l : List MsgS} (h : ChanAt W c cap l) (hb : Below W.heap.size W W') : ChanAt W' c cap l := h.kept (Kept.of_below hb (X := fun b => W.heap.size <= b) (fun _ _ h => h)) (by have := h.lt; omega)
set_option maxHeartbeats 1000000 in
set_option maxRecDepth 100000 in
theorem newOut_calls (w : World) : Calls Tryz.prog 116 #[] w fun e w' => ∃ T, e = .returned (.pointer (some ⟨T, 0, none⟩)) /\ OutAt (fun b => w.heap.size <= b) w' T link0 /\ Below w.heap.size w w' := by
 go_enter Tryz.func116, Tryz.ntmps116
 go_wp2_with fail
 go_ret
 refine ⟨_, rfl, ⟨w.heap.size, 4, ?_, ?_, (chan_new w 4).below ((Below.refl _ _).alloc (Nat.le_refl _) _), Nat.le_refl _, by omega, by simp [link0], by simp [link0, LinkS.left]⟩, ((Below.refl _ _).alloc (Nat.le_refl _) _).alloc (by simp) _⟩
 ·exact boxAt_at _ _ _ _ (by simp)
 ·simp
set_option maxHeartbeats 1000000 in
set_option maxRecDepth 100000 in
theorem newIn_calls (w : World) : Calls Tryz.prog 118 #[] w fun e w' => ∃ T, e = .returned (.pointer (some ⟨T, 0, none⟩)) /\ InAt (fun b => w.heap.size <= b) w' T link0 /\ Below w.heap.size w w' := by
 have hmm := @run_makeMap Tryz.prog
 go_enter Tryz.func118, Tryz.ntmps118
 go_wp2_with fail
 go_ret
 refine ⟨_, rfl, ⟨w.heap.size, ?_, ?_, (InMap.new w).kept (Kept.alloc (fun _ => False) _ _) (fun h => h), Nat.le_refl _⟩, ((Below.refl _ _).alloc (Nat.le_refl _) _).alloc (by simp) _⟩
 ·exact boxAt_at _ _ _ _ (by simp)
 ·simp
end Go.Proofs.YteahdfeialekbaaGreatDoor
namespace Go.Proofs.YteahdfeialekbaaGreatDoor
open Go Go.RowKit
theorem infoPOut : (Tryz.prog.info? 198).map (fun i => (i.zero, i.size, i.bytes)) = some (some (.pointer none), 1, 8) := by kernel_rfl
set_option maxHeartbeats 1000000 in
set_option maxRecDepth 100000 in
theorem newLinks_calls (i n : Nat) (w : World) (hn : n <= 5) (hi : i < n) :
  Calls Tryz.prog 115 #[.int .i64 i, .int .i64 n, .func (.func 116) #[] #[]] w fun e w' => ∃ (g : Nat) (part : Nat -> Nat), e = .returned (.slice (some ⟨g, 0, none⟩) n n) /\ (∀ b, part b ≠ 0 -> w.heap.size <= b /\ (part b = 9 \/ (100 + 10 * i <= part b /\ part b < 100 + 10 * i + n))) /\ XLinksAt part i w' (.slice (some ⟨g, 0, none⟩) n n) (List.replicate n link0) /\ Below w.heap.size w w' := by
 obtain ⟨i0, hi0, hz0, hz1, hz2⟩ := info_parts infoPOut
 go_enter Tryz.func115, Tryz.ntmps115
 go_wp2_with (at_make; refine wpList_make_full _ rfl _ _ 133 rfl w.heap.size 198 i0 _ 1 Tryz.underlying133 hi0 hz0 hz1 .i64 .i64 _ _ n rfl rfl (by simp) (by simp) (by rw [hz2]; omega) (by unfold maxLen; omega) (Nat.le_refl _) ?_; intro w1 hown1 hgrow1)
 obtain ⟨cur, hcur, hcn, hc0⟩ : ∃ cur, BoxAt w1 w.heap.size 198 cur /\ cur.size = n /\ ∀ j, j < n -> cur[j]? = some (Value.pointer none) := by
  rcases hown1.2 with ⟨h0, _⟩ | ⟨g', cap', cur, h0, hb, hcur, hnc, hcm, hcs, htk⟩
  ·cases h0
  ·cases h0
   have hsz : cur.size = n := by rw [hcs]; omega
   refine ⟨cur, hcur, hsz, fun j hj => ?_⟩
   have h1 := congrArg (fun l => l[j]?) htk
   simp only [List.getElem?_take, show j < n * 1 by omega, if_true, Array.getElem?_toList] at h1
   rw [h1]
   simp [madeCells, Value.cells, hj, Nat.mod_one]
 have hb1 : Below w.heap.size w w1 := (Kept.grown hgrow1 (X := fun _ => False) (fun r e => by cases e)).below (Nat.le_refl _) (fun _ h => h.elim)
 have HCUR := hid_of hcur
 have HB1 := hid_of hb1
 have hCN : Hid (cur.size = n) := hcn
 have HC0 := hid_of hc0
 have hls := hcur.lt
 clear hown1 hgrow1 hcur hb1 hcn hc0
 go_loopw [13] (fun iv wr => ∃ (k : Nat) (cur : Array Value) (part : Nat -> Nat) (qs : List (Option Nat)), k <= n /\ iv = .int .i64 k /\ BoxAt wr w.heap.size 198 cur /\ cur.size = n /\ (∀ j, k <= j -> j < n -> cur[j]? = some (Value.pointer none)) /\ qs.length = k /\ (∀ (j : Nat) (q : Option Nat), qs[j]? = some q -> cur[j]? = some (Value.pointer (q.map (fun b => (⟨b, 0, none⟩ : Addr))))) /\
  (∀ b, part b ≠ 0 -> w.heap.size < b /\ 100 + 10 * i <= part b /\ part b < 100 + 10 * i + n) /\ (∀ j q, qs[j]? = some q -> EndAt part i j wr link0 q) /\ Below w.heap.size w wr) (fun iv _ => n - (intOf iv).toNat)
 case atStart => exact ⟨0, cur, fun _ => 0, [], Nat.zero_le _, rfl, HCUR.out, hCN.out, (fun j _ h => HC0.out j h), rfl, (fun j q h => by simp at h), (fun b h => absurd rfl h), (fun j q h => by simp at h), HB1.out⟩
 case round =>
  obtain ⟨k, cu, part, qs, hk, rfl, hbox, hcz, hc0, hql, hqc, hpt, hqe, hbw⟩ := hrel
  rename World => wr
  have HBOX := hid_of hbox
  have HBW := hid_of hbw
  have HCZ : Hid (cu.size = n) := hcz
  have HQ0 := hid_of hc0
  have HQL : Hid (qs.length = k) := hql
  have HQC := hid_of hqc
  have HPT := hid_of hpt
  have HQE := hid_of hqe
  have hsz := hbw.size
  have hlt0 := hbox.lt
  clear hbox hbw hcz hc0 hql hqc hpt hqe
  by_cases hlt : k < n
  ·have j1 : (0 : Int) <= (k : Int) := by omega
   have j2 : (k : Int) < (n : Int) := by omega
   have HV0 := hid_of (HQ0.out k (Nat.le_refl _) hlt)
   by_cases hki : k = i
   ·have hne : ((k : Int) != (i : Int)) = false := by simp [hki]
    have HKI : Hid (k = i) := hki
    clear hki
    go_wp2_with fail
    go_roundw
    case rel =>
     refine ⟨k + 1, cu, part, qs ++ [none], by omega, by go_num, HBOX.out, HCZ.out, (fun j h1 h2 => HQ0.out j (by omega) h2), by rw [List.length_append, HQL.out]; rfl, fun j q hq => ?_, HPT.out, fun j q hq => ?_, HBW.out⟩
     ·rcases get_snoc hq with ⟨_, hq'⟩ | ⟨hj, rfl⟩
      ·exact HQC.out j q hq'
      ·rw [HQL.out] at hj; subst hj; exact HV0.out
     ·rcases get_snoc hq with ⟨_, hq'⟩ | ⟨hj, rfl⟩
      ·exact HQE.out j q hq'
      ·rw [HQL.out] at hj; subst hj; exact ⟨HKI.out, rfl⟩
    case measure => simp [intOf]; omega
   ·have hne : ((k : Int) != (i : Int)) = true := by simp; omega
    have HKI : Hid (k ≠ i) := hki
    clear hki
    go_wp2_with (go_at_call 116; refine (newOut_calls wr).mono ?_; rintro e w2 ⟨T, rfl, hT2, hb2⟩; have hbx2 := HBOX.out.below hb2 hlt0; have y0 := hbx2.cell HV0.out; have z0 := hbx2.frozen k)
    go_roundw
    case rel =>
     have k23 : Kept (· = w.heap.size) w2 (w2.setCell ⟨w.heap.size, k, none⟩ (.pointer (some ⟨T, 0, none⟩))) := (Kept.refl _ _).setCell (.inl (by rfl)) _
     have kr3 : Kept (· = w.heap.size) wr (w2.setCell ⟨w.heap.size, k, none⟩ (.pointer (some ⟨T, 0, none⟩))) := (Kept.of_below hb2 (X := (· = w.heap.size)) (fun b h1 h2 => by omega)).andThen k23 (fun b _ h => h)
     refine ⟨k + 1, _, fun b => if b < wr.heap.size then part b else 100 + 10 * i + k, qs ++ [some T], by omega, by go_num, hbx2.setAt k _, by simp [HCZ.out], fun j h1 h2 => ?_, by rw [List.length_append, HQL.out]; rfl, fun j q hq => ?_, fun b hb => ?_, fun j q hq => ?_, ?_⟩
     ·rw [Array.getElem?_setIfInBounds_ne (by omega)]; exact HQ0.out j (by omega) h2
     ·rcases get_snoc hq with ⟨hj, hq'⟩ | ⟨hj, rfl⟩
      ·rw [HQL.out] at hj
       rw [Array.getElem?_setIfInBounds_ne (by omega)]; exact HQC.out j q hq'
      ·rw [HQL.out] at hj; subst hj
       rw [Array.getElem?_setIfInBounds_self_of_lt (by rw [HCZ.out]; exact hlt)]; rfl
     ·dsimp only at hb ⊢
      by_cases h : b < wr.heap.size
      ·rw [if_pos h] at hb ⊢; exact HPT.out b hb
      ·rw [if_neg h]; exact ⟨by omega, by omega, by omega⟩
     ·rcases get_snoc hq with ⟨hj, hq'⟩ | ⟨hj, rfl⟩
      ·exact (HQE.out j q hq').kept kr3 (fun g hg h => ⟨fun h' => by have := HPT.out g (by omega); omega, (if_pos hg).trans h⟩)
      ·rw [HQL.out] at hj; subst hj
       exact ⟨HKI.out, hT2.kept k23 (fun g hg h => ⟨fun h' => by omega, if_neg (by omega)⟩)⟩
     ·exact (HBW.out.trans (hb2.mono hsz)).setCell (Nat.le_refl _) _
    case measure => simp [intOf]; omega
  ·obtain rfl : n = k := by omega
   go_wp2_with fail
   go_ret
   refine ⟨_, fun b => if b = w.heap.size then 9 else part b, rfl, fun b hb => ?_, ⟨qs, ⟨?_, fun g e => ?_⟩, by rw [HQL.out]; simp, fun j q l hq hl => ?_⟩, HBW.out⟩
   ·dsimp only at hb ⊢
    by_cases h : b = w.heap.size
    ·rw [if_pos h]; exact ⟨by omega, .inl rfl⟩
    ·rw [if_neg h] at hb ⊢
     have := HPT.out b hb
     exact ⟨by omega, .inr this.2⟩
   ·have := row_of_cells (base := 0) (n := n) (sz := 1) (enc := optEnc) (xs := qs) (by omega) (fun _ => rfl) HBOX.out (Nat.zero_le _) (by rw [HCZ.out]; omega) HQL.out (by unfold maxLen; omega) (fun j x i' u hx hu => by
     match i', hu with
     | 0, hu => cases hu; simpa using HQC.out j x hx
     | (m + 1), hu => simp [optEnc] at hu)
    rw [HQL.out]
    exact this
   ·simp [Value.ownBlock] at e
    exact if_pos e.symm
   ·rw [replicate_get hl]
    exact (HQE.out j q hq).kept (Kept.refl (fun _ => False) _) (fun g hg h => ⟨fun h => h, (if_neg (by have := HPT.out g (by omega); omega)).trans h⟩)
def WalkN (P : Program) (c : Code) (Q : Exit -> Act -> World -> Prop) (a : Act) (w : World) : Prop :=
 ∀ (b : Frame) (k : List Item) (cs : List Frame), b.kind = .normal -> b.roundOf = none -> ∃ e a' w', Q e a' w' /\ Arrives P (lone (b.at a (.code c :: k)) cs w) b k cs e a' w'
def WalkO (P : Program) (ops : Array Oper) (l : List Nat) (Q : Exit -> Act -> World -> Prop) (a : Act) (w : World) : Prop :=
 ∀ (b : Frame) (k : List Item) (cs : List Frame), b.kind = .normal -> b.roundOf = none -> ∃ e a' w', Q e a' w' /\ Arrives P (lone (b.at a (.inRegion ops l :: k)) cs w) b k cs e a' w'
section
variable {P : Program} {Q : Exit -> Act -> World -> Prop} {a : Act} {w : World}
theorem WalkN.of_wp {c : Code} (h : c.wp P Q a w) : WalkN P c Q a w := fun b k cs _ _ => h b k cs
theorem WalkN.of_wpIn {n : Nat} {c : Code} (h : c.wpIn Fence.wide n P Q a w) : WalkN P c Q a w := fun b k cs _ hb => by
 obtain ⟨e, a', w', h1, h2⟩ := h b k cs hb trivial (room_wide _)
 rw [Frame.atR_of_none hb] at h2
 exact ⟨e, a', w', h1, (arrivesIn_iff (fun _ _ => stepsIn_wide) hb).1 h2⟩
theorem WalkN.mono {c : Code} {Q' : Exit -> Act -> World -> Prop} (h : WalkN P c Q a w) (hq : ∀ e a w, Q e a w -> Q' e a w) : WalkN P c Q' a w :=
 fun b k cs hk hb => let ⟨e, a', w', q, r⟩ := h b k cs hk hb; ⟨e, a', w', hq _ _ _ q, r⟩
theorem WalkN.seq {x y : Code} (h : WalkN P x (Exit.then (WalkN P y Q) Q) a w) : WalkN P (.seq x y) Q a w := by
 intro b k cs hk hb
 obtain ⟨e, a1, w1, hq, hr⟩ := h b (.code y :: k) cs hk hb
 have go : ∀ e', e = e' -> e' ≠ .normal -> Q e' a1 w1 -> ∃ e a' w', Q e a' w' /\ Arrives P (lone (b.at a (.code (.seq x y) :: k)) cs w) b k cs e a' w' := fun e' he hn hq' => by
  subst he
  exact ⟨_, a1, w1, hq', .of_steps (.one step_seq) (.pass (x := .code y) rfl (fun _ _ => .inl hn) hr)⟩
 cases e with
 | normal =>
  obtain ⟨e2, a2, w2, hq2, hr2⟩ := hq b k cs hk hb
  exact ⟨e2, a2, w2, hq2, .of_steps (.head step_seq hr) hr2⟩
 | exit id => exact go _ rfl (by simp) hq
 | goto l => exact go _ rfl (by simp) hq
 | ret => exact go _ rfl (by simp) hq
 | panic ch => exact go _ rfl (by simp) hq
 | outgrown => exact go _ rfl (by simp) hq
theorem WalkN.step {x y : Code} (h : ∀ K : Act -> World -> Prop, (∀ a w, WalkN P y Q a w -> K a w) -> x.wp P (Exit.then K (fun _ _ _ => False)) a w) : WalkN P (.seq x y) Q a w :=
 WalkN.seq ((WalkN.of_wp (h _ fun _ _ h => h)).mono fun e a w hq => by cases e <;> first | exact hq | exact hq.elim)
theorem WalkN.cond {c : Operand} {x y : Code} {t : Bool} (hc : a.eval c = .bool t) (h : WalkN P (if t then x else y) Q a w) : WalkN P (.cond c x y) Q a w :=
 fun b k cs hk hb => let ⟨e, a', w', q, r⟩ := h b k cs hk hb; ⟨e, a', w', q, .of_steps (.one (step_cond hc)) r⟩
theorem WalkN.block {id : Nat} {c : Code} (h : WalkN P c (Exit.inBlock id Q) a w) : WalkN P (.block id c) Q a w := by
 intro b k cs hk hb
 obtain ⟨e, a1, w1, hq, hr⟩ := h b (.inBlock id :: k) cs hk hb
 cases e with
 | normal => exact ⟨.normal, a1, w1, hq, .head step_block (Steps.trans hr (.one step_inBlock))⟩
 | exit i =>
  by_cases hi : i = id
  ·subst hi
   exact ⟨.normal, a1, w1, by simpa [Exit.inBlock] using hq, .head step_block (hr k (by simp [exitTo]))⟩
  ·refine ⟨.exit i, a1, w1, by simpa [Exit.inBlock, hi] using hq, fun k' hk' => .head step_block (hr k' ?_)⟩
   have : (id == i) = false := by rw [beq_eq_false_iff_ne]; exact fun h => hi h.symm
   simp [exitTo, this, hk']
 | goto l => exact ⟨_, a1, w1, hq, fun k' hk' => .head step_block (hr k' (by simp [gotoIn, hk']))⟩
 | ret => exact ⟨_, a1, w1, hq, .of_steps (.one step_block) hr⟩
 | panic ch => exact ⟨_, a1, w1, hq, .of_steps (.one step_block) hr⟩
 | outgrown => exact ⟨_, a1, w1, hq, .of_steps (b := b) (k := k) (cs := cs) (e := .outgrown) (.one step_block) hr⟩
theorem WalkN.loop {c : Code} (I : Nat -> Act -> World -> Prop) (m : Nat) (h0 : I m a w) (round : ∀ m a w, I m a w -> WalkN P c (Exit.then (fun a' w' => ∃ m', m' < m /\ I m' a' w') Q) a w) : WalkN P (.loop c) Q a w := by
 intro b k cs hk hb
 have key : ∀ m a w, I m a w -> ∃ e a' w', Q e a' w' /\ Arrives P (lone (b.at a (.code c :: .inLoop c :: k)) cs w) b k cs e a' w' := by
  intro m
  induction m using Nat.strongRecOn with
  | _ m ih =>
   intro a w hI
   obtain ⟨e, a1, w1, hq, hr⟩ := round m a w hI b (.inLoop c :: k) cs hk hb
   have go : ∀ e', e = e' -> e' ≠ .normal -> Q e' a1 w1 -> ∃ e a' w', Q e a' w' /\ Arrives P (lone (b.at a (.code c :: .inLoop c :: k)) cs w) b k cs e a' w' := fun e' he hn hq' => by
    subst he
    exact ⟨_, a1, w1, hq', .pass (x := .inLoop c) rfl (fun _ _ => .inl hn) hr⟩
   cases e with
   | normal =>
    obtain ⟨m', hlt, hI'⟩ := hq
    obtain ⟨e2, a2, w2, hq2, hr2⟩ := ih m' hlt a1 w1 hI'
    exact ⟨e2, a2, w2, hq2, .of_steps (Steps.trans hr (.one step_inLoop)) hr2⟩
   | exit id => exact go _ rfl (by simp) hq
   | goto l => exact go _ rfl (by simp) hq
   | ret => exact go _ rfl (by simp) hq
   | panic ch => exact go _ rfl (by simp) hq
   | outgrown => exact go _ rfl (by simp) hq
 obtain ⟨e, a', w', hq, hr⟩ := key m a w h0
 exact ⟨e, a', w', hq, .of_steps (.one step_loop) hr⟩
theorem WalkN.region {id : Nat} {ops : Array Oper} (h : WalkO P ops (List.range ops.size) Q a w) : WalkN P (.region id ops false) Q a w :=
 fun b k cs hk hb => let ⟨e, a', w', q, r⟩ := h b k cs hk hb; ⟨e, a', w', q, .of_steps (.one step_region) r⟩
theorem WalkN.region_draw {id : Nat} {ops : Array Oper} (h : ∀ t, WalkO P ops (Region.schedule (P.follows .mixedOrders) ops t) Q a { w with drawn := w.drawn + 1 }) : WalkN P (.region id ops true) Q a w :=
 fun b k cs hk hb => let ⟨e, a', w', q, r⟩ := h _ b k cs hk hb; ⟨e, a', w', q, .of_steps (.one step_region_draw) r⟩
variable {ops : Array Oper} {i : Nat} {rest : List Nat} {o : Oper}
theorem WalkO.nil (h : Q .normal a w) : WalkO P ops [] Q a w := fun _ _ _ _ _ => ⟨.normal, a, w, h, .one step_region_end⟩
theorem finish_at_some (ho : ops[i]? = some o) (b : Frame) (k : List Item) (v : Value) : (b.at a (.inRegion ops (i :: rest) :: k)).finish v = b.at (a.put o.dst v) (.inRegion ops rest :: k) := by
 rw [Frame.finish_at, ho]; rfl
theorem WalkO.value {v : Value} {w' : World} (ho : ops[i]? = some o) (hw : Region.wanted o (yielded ops a.tmps) = true) (hr : (execOp a.eval o).run P w = .ok (.value v) w') (h : WalkO P ops rest Q (a.put o.dst v) w') : WalkO P ops (i :: rest) Q a w := by
 intro b k cs hk hb
 obtain ⟨e, a2, w2, hq, hr2⟩ := h b k cs hk hb
 refine ⟨e, a2, w2, hq, .of_steps (.one (step_lone_go ?_)) hr2⟩
 rw [stepG_op ho hw, <- finish_at_some ho]
 simp [stepG.apply, hr]
theorem WalkO.send {c cap s r : Nat} {buf : Array Value} {tm : Bool} {v z : Value} {w' : World} (ho : ops[i]? = some o) (hw : Region.wanted o (yielded ops a.tmps) = true) (hr : (execOp a.eval o).run P w = .ok (.comm #[Conc.scase c v z] true .send) w')
  (hc : w'.heap[c]? = some (.chan cap buf false s r tm)) (hroom : buf.size < cap) (h : WalkO P ops rest Q (a.put o.dst undef) (w'.setChan c cap (buf.push v) false (s + 1) r tm)) : WalkO P ops (i :: rest) Q a w := by
 intro b k cs hk hb
 obtain ⟨e, a2, w2, hq, hr2⟩ := h b k cs hk hb
 refine ⟨e, a2, w2, hq, .of_steps (.one ?_) hr2⟩
 have := Conc.step_lone_send_room (fr := b.at a (.inRegion ops (i :: rest) :: k)) (cs := cs) (Conc.stepG_comm ho hw (by rw [hk]; simp) hr) hc hroom
 rw [finish_at_some ho] at this
 exact this
theorem WalkO.recv {ok closed tm : Bool} {c cap s r : Nat} {buf : Array Value} {z : Value} {w' : World} (ho : ops[i]? = some o) (hw : Region.wanted o (yielded ops a.tmps) = true) (hr : (execOp a.eval o).run P w = .ok (.comm #[Conc.rcase c z] true (.recv ok)) w')
  (hc : w'.heap[c]? = some (.chan cap buf closed s r tm)) (hsome : 0 < buf.size) (h : WalkO P ops rest Q (a.put o.dst (Conc.got ok (buf.getD 0 undef) true)) (w'.setChan c cap (buf.extract 1 buf.size) closed s (r + 1) tm)) : WalkO P ops (i :: rest) Q a w := by
 intro b k cs hk hb
 obtain ⟨e, a2, w2, hq, hr2⟩ := h b k cs hk hb
 refine ⟨e, a2, w2, hq, .of_steps (.one ?_) hr2⟩
 have := Conc.step_lone_recv_buf (fr := b.at a (.inRegion ops (i :: rest) :: k)) (cs := cs) ok (Conc.stepG_comm ho hw (by rw [hk]; simp) hr) hc hsome
 rw [finish_at_some ho] at this
 exact this
theorem WalkO.shut {ok tm : Bool} {c cap s r : Nat} {z : Value} {w' : World} (ho : ops[i]? = some o) (hw : Region.wanted o (yielded ops a.tmps) = true) (hr : (execOp a.eval o).run P w = .ok (.comm #[Conc.rcase c z] true (.recv ok)) w')
  (hc : w'.heap[c]? = some (.chan cap #[] true s r tm)) (h : WalkO P ops rest Q (a.put o.dst (Conc.got ok z false)) w') : WalkO P ops (i :: rest) Q a w := by
 intro b k cs hk hb
 obtain ⟨e, a2, w2, hq, hr2⟩ := h b k cs hk hb
 refine ⟨e, a2, w2, hq, .of_steps (.one ?_) hr2⟩
 have := Conc.step_lone_recv_shut (fr := b.at a (.inRegion ops (i :: rest) :: k)) (cs := cs) ok (Conc.stepG_comm ho hw (by rw [hk]; simp) hr) hc
 rw [finish_at_some ho] at this
 exact this
def uponV (a : Act) (o : Oper) (K : Act -> World -> Prop) : Result Next -> Prop
 | .ok (.value v) w' => K (a.put o.dst v) w'
 | _ => False
theorem uponV_value (a : Act) (o : Oper) (K : Act -> World -> Prop) (v : Value) (w' : World) : uponV a o K (.ok (.value v) w') = K (a.put o.dst v) w' := rfl
theorem WalkO.oper (ho : ops[i]? = some o) (hw : Region.wanted o (yielded ops a.tmps) = true) (h : ∀ K : Act -> World -> Prop, (∀ a' w', WalkO P ops rest Q a' w' -> K a' w') -> uponV a o K ((execOp a.eval o).run P w)) : WalkO P ops (i :: rest) Q a w := by
 have h1 := h _ (fun _ _ h => h)
 unfold uponV at h1
 split at h1
 ·rename_i v w' hr
  exact WalkO.value ho hw hr h1
 ·exact h1.elim
def ordersOf (md : Region.Mode) (ops : Array Oper) : Nat -> Array Bool -> List (List Nat)
 | 0, _ => [[]]
 | n + 1, listed => match Region.ready md ops listed with
  | [] => [[]]
  | x :: r => (x :: r).flatMap fun i => (ordersOf md ops n (listed.setIfInBounds i true)).map (i :: ·)
theorem order_mem {md : Region.Mode} {ops : Array Oper} : ∀ (n t : Nat) (listed : Array Bool), Region.linearise.go md ops n t listed [] ∈ ordersOf md ops n listed := by
 intro n
 induction n with
 | zero => intro t listed; simp [Region.linearise.go, ordersOf]
 | succ n ih =>
  intro t listed
  simp only [Region.linearise.go, ordersOf]
  change (match (Region.ready md ops listed)[t % (Region.ready md ops listed).length]? with
   | some i => Region.linearise.go md ops n (t / (Region.ready md ops listed).length) (listed.setIfInBounds i true) [i]
   | none => [].reverse) ∈ _
  cases hr : Region.ready md ops listed with
  | nil => simp
  | cons x r =>
   have hlt : t % (x :: r).length < (x :: r).length := Nat.mod_lt _ (by simp)
   rw [List.getElem?_eq_getElem hlt]
   simp only []
   rw [linearise_go_acc, List.reverse_singleton, List.singleton_append]
   exact List.mem_flatMap.2 ⟨_, List.getElem_mem hlt, List.mem_map.2 ⟨_, ih _ _, rfl⟩⟩
theorem WalkN.region_any {id : Nat} {ops : Array Oper} {L : List (List Nat)} (hm : P.follows .mixedOrders = true) (hL : ordersOf .any ops ops.size (Array.replicate ops.size false) = L) (h : ∀ l ∈ L, WalkO P ops l Q a { w with drawn := w.drawn + 1 }) : WalkN P (.region id ops true) Q a w :=
 WalkN.region_draw fun t => h _ (by
  rw [<- hL]
  simp only [Region.schedule, hm, Bool.true_or, if_true]
  exact order_mem _ _ _)
theorem calls_of_walkN {f : FuncId} {fn : Func} {c : Code} {args : Array Value} {R : Ending -> World -> Prop} (hf : P.funcs[f]? = some fn) (hc : fn.body = some c)
  (h : WalkN P c (bodyPost P fn R) { tmps := args ++ Array.replicate (fn.ntmps - args.size) undef, defers := [] } w) (hno : ∀ w', ¬ R .outgrown w') : Calls P f args w R := by
 intro cs
 let b : Frame := { (default : Frame) with fn := f, kind := .normal, roundOf := none }
 have he : Frame.enter P f args .normal = b.at { tmps := args ++ Array.replicate (fn.ntmps - args.size) undef, defers := [] } [.code c] := by
  simp [Frame.enter, Frame.at, hf, hc, b]
 obtain ⟨e, a', w', hq, hr⟩ := h b [] cs rfl rfl
 rw [<- he] at hr
 cases e with
 | normal =>
  obtain ⟨hd, v, hv, hR⟩ := hq
  exact ⟨.returned v, w', _, hR, Steps.trans hr (.one step_end), rfl, rfl, hd, rfl, fn, hf, hv⟩
 | ret =>
  obtain ⟨hd, v, hv, hR⟩ := hq
  obtain ⟨todo, hs⟩ := hr
  exact ⟨.returned v, w', _, hR, hs, rfl, rfl, hd, rfl, fn, hf, hv⟩
 | panic ch =>
  obtain ⟨hd, hR⟩ := hq
  obtain ⟨todo, hs⟩ := hr
  exact ⟨.panicked ch, w', _, hR, hs, rfl, rfl, hd, fn, hf⟩
 | exit id => exact hq.elim
 | goto l => exact hq.elim
 | outgrown => exact absurd hq (hno _)
end
def recL (fn : FuncId) (tmps : Array Value) (ps : Array Tmp) (assign body : Code) (D : Nat) (st : LoopState) (pe : Option Code) : Loop :=
 { state := st, pending := pe, fn, tmps, params := ps, assign, body, defers := D }
def roundG (l : Nat) (rec : LoopState -> Option Code -> Loop) (R : Ending -> World -> Prop) : Exit -> Act -> World -> Prop
 | .normal, _, Z => Z.heap[l]? = some (.loop (rec .busy none)) /\ R (.returned (.bool true)) (Z.putObj l (.loop (rec .ready none)))
 | .ret, _, Z => Z.heap[l]? = some (.loop (rec .busy none)) /\ R (.returned (.bool false)) (Z.putObj l (.loop (rec .done (some .ret))))
 | .exit i, _, Z => Z.heap[l]? = some (.loop (rec .busy none)) /\ R (.returned (.bool false)) (Z.putObj l (.loop (rec .done (some (.exit i)))))
 | _, _, _ => False
variable {P : Program}
theorem yield_round {m l : Nat} {fn : FuncId} {tmps : Array Value} {ps : Array Tmp} {assign body : Code} {D : Nat} {args : Array Value} {W : World} {R : Ending -> World -> Prop}
  (hl : W.heap[l]? = some (.loop (recL fn tmps ps assign body D .ready none))) (hps : args.size = ps.size)
  (h : ∀ K : Act -> World -> Prop, (∀ a' U, U.heap[l]? = some (.loop (recL fn tmps ps assign body D .ready none)) -> body.wpIn (Fence.wide.inRound l) m P (roundG l (recL fn tmps ps assign body D) R) a' (U.putObj l (.loop (recL fn tmps ps assign body D .busy none))) -> K a' U) ->
   assign.wpIn (Fence.wide.inRound l) m P (Exit.then K (fun _ _ _ => False)) { tmps := (ps.zip args).foldl (fun t (p, v) => t.setIfInBounds p v) tmps, defers := [] } W) : YieldAt Fence.wide m P l args W R := by
 refine ⟨fn, _, assign, body, run_yield hl hps, roundIn_of_wpIn trivial (h _ fun a' U ul hb => ?_)⟩
 refine ⟨_, run_beginRound ul rfl, ?_⟩
 refine wpIn_mono hb ?_
 rintro e a3 Z hp
 cases e with
 | normal => exact ⟨_, _, run_endRound none hp.1, hp.2⟩
 | ret => exact ⟨_, _, run_endRound (some .ret) hp.1, hp.2⟩
 | exit i => exact ⟨_, _, run_endRound (some (.exit i)) hp.1, hp.2⟩
 | goto t => exact hp.elim
 | panic ch => exact hp.elim
 | outgrown => exact hp.elim
theorem range_lawF {F : Fence} {n : Nat} {g : Operand} {ps : Array Tmp} {assign body : Code} {Q : Exit -> Act -> World -> Prop} {a : Act} {w : World} {gf : Nat} {lb : Array Value} (hro : F.round = none) (h1 : F.depth.isSome = true -> 1 <= n) (hFg : F.fn gf) (hg : a.eval g = .func (.func gf) #[] lb) (eg : ∀ args w, (callFunc gf args).run P w = .ok (.enter gf args) w)
  (hcall : ∀ fn, CallsIn F (n - 1) P gf (#[.func (.yield (w.heap.size + 1)) #[] #[]] ++ lb) ((w.alloc (.deferred (some []))).alloc (.loop (recL fn a.tmps ps assign body w.heap.size .ready none))) fun e W' => (∃ v, e = .returned v) /\
   ((W'.heap[w.heap.size + 1]? = some (.loop (recL fn a.tmps ps assign body w.heap.size .ready none)) /\ Q .normal { a with defers := { target := .collected w.heap.size, args := #[] } :: a.defers } (W'.putObj (w.heap.size + 1) (.loop (recL fn a.tmps ps assign body w.heap.size .exhausted none)))) \/
     ∃ c, W'.heap[w.heap.size + 1]? = some (.loop (recL fn a.tmps ps assign body w.heap.size .done (some c))) /\ c.wpIn F n P Q { a with defers := { target := .collected w.heap.size, args := #[] } :: a.defers } (W'.putObj (w.heap.size + 1) (.loop (recL fn a.tmps ps assign body w.heap.size .exhausted (some c)))))) :
  (Code.rangeFunc g ps assign body).wpIn F n P Q a w := by
 refine wpIn_rangeFunc fun fn _ => ?_
 rw [hro]
 have hc := hcall fn
 obtain ⟨V, hV⟩ : ∃ V, (w.alloc (.deferred (some []))).alloc (.loop (recL fn a.tmps ps assign body w.heap.size .ready none)) = V := ⟨_, rfl⟩
 rw [hV] at hc
 refine ⟨w.heap.size + 1, [{ target := .collected w.heap.size, args := #[] }], V, { target := .fn (.func gf) lb, args := #[.func (.yield (w.heap.size + 1)) #[] #[]] }, V, gf,
  #[.func (.yield (w.heap.size + 1)) #[] #[]] ++ lb, V, ?_, ?_, ?_, ?_, ?_, ?_⟩
 ·rw [<- hV]; exact run_enterLoop_outer _ _ _ _ _
 ·simp only [resolve, hg]; simp [go_sem]
 ·intro f' hf'; simp [Target.leads] at hf'; subst hf'; exact hFg
 ·simp [invoke, go_sem, eg]
 ·exact h1
 ·refine hc.mono ?_
  rintro e Z ⟨⟨v, rfl⟩, (⟨hl, hq⟩ | ⟨c, hl, hq⟩)⟩
  ·exact ⟨none, _, run_endLoop hl (by simp [recL]), hq⟩
  ·exact ⟨some c, _, run_endLoop hl (by simp [recL]), hq⟩
theorem range_lawG {n : Nat} {g : Operand} {ps : Array Tmp} {assign body : Code} {Q : Exit -> Act -> World -> Prop} {a : Act} {w : World} {gf : Nat} {lb : Array Value} (hg : a.eval g = .func (.func gf) #[] lb) (eg : ∀ args w, (callFunc gf args).run P w = .ok (.enter gf args) w)
  (hcall : ∀ rec : LoopState -> Option Code -> Loop,
   (∀ (m : Nat) (args : Array Value) (W : World) (R : Ending -> World -> Prop), W.heap[w.heap.size + 1]? = some (.loop (rec .ready none)) -> args.size = ps.size ->
    (∀ K : Act -> World -> Prop, (∀ a' U, U.heap[w.heap.size + 1]? = some (.loop (rec .ready none)) -> body.wpIn (Fence.wide.inRound (w.heap.size + 1)) m P (roundG (w.heap.size + 1) rec R) a' (U.putObj (w.heap.size + 1) (.loop (rec .busy none))) -> K a' U) ->
     assign.wpIn (Fence.wide.inRound (w.heap.size + 1)) m P (Exit.then K (fun _ _ _ => False)) { tmps := (ps.zip args).foldl (fun t (p, v) => t.setIfInBounds p v) a.tmps, defers := [] } W) -> YieldAt Fence.wide m P (w.heap.size + 1) args W R) ->
   CallsIn Fence.wide (n - 1) P gf (#[.func (.yield (w.heap.size + 1)) #[] #[]] ++ lb) ((w.alloc (.deferred (some []))).alloc (.loop (rec .ready none))) fun e W' => (∃ v, e = .returned v) /\
    ((W'.heap[w.heap.size + 1]? = some (.loop (rec .ready none)) /\ Q .normal { a with defers := { target := .collected w.heap.size, args := #[] } :: a.defers } (W'.putObj (w.heap.size + 1) (.loop (rec .exhausted none)))) \/
      ∃ c, W'.heap[w.heap.size + 1]? = some (.loop (rec .done (some c))) /\ c.wpIn Fence.wide n P Q { a with defers := { target := .collected w.heap.size, args := #[] } :: a.defers } (W'.putObj (w.heap.size + 1) (.loop (rec .exhausted (some c)))))) :
  (Code.rangeFunc g ps assign body).wpIn Fence.wide n P Q a w :=
 range_lawF (F := Fence.wide) rfl (fun h => (by cases h)) trivial hg eg (fun fn => hcall (recL fn a.tmps ps assign body w.heap.size) (fun _ _ _ _ hl hps h => yield_round hl hps h))
theorem Kept.setChan {X : Nat -> Prop} {A W : World} (h : Kept X A W) {c : Nat} (hc : X c \/ A.heap.size <= c) (cap : Nat) (buf : Array Value) (cl : Bool) (s r : Nat) (tm : Bool) : Kept X A (W.setChan c cap buf cl s r tm) :=
 ⟨h.os, h.tape, h.output, by simpa [World.setChan] using h.size, fun k hk hx => by
  simp only [World.setChan]
  rw [Array.getElem?_setIfInBounds_ne (fun e => by subst e; rcases hc with h' | h'; exact hx h'; omega)]
  exact h.block k hk hx⟩
theorem chan_set {W : World} {c : Nat} (h : c < W.heap.size) (cap : Nat) (buf : Array Value) (cl : Bool) (s r : Nat) (tm : Bool) : (W.setChan c cap buf cl s r tm).heap[c]? = some (.chan cap buf cl s r tm) := by
 simp [World.setChan, h]
theorem mkChanN (n : Nat) (hn : n <= 1000000000) (w : World) : (Instr.makeChan 166 (.int .i64 (n : Int))).run Tryz.prog w = .ok (.chan (some w.heap.size)) (w.alloc (.chan n #[] false 0 0 false)) := by
 have hi := infoMessage
 cases h : Tryz.prog.info? 140 with
 | none => rw [h] at hi; cases hi
 | some i =>
  rw [h] at hi
  simp at hi
  exact Conc.run_makeChan Tryz.underlying166 h .i64 n (by omega) (by rw [hi.2.2]; omega)
abbrev frT (y : Value) (Br Bo N c : Nat) (wanted : Bool) (x : Nat -> Value) : Act := ⟨#[y, .pointer (some ⟨Br, 0, none⟩), .pointer (some ⟨Bo, 0, none⟩), x 3, .chan (some N), .bool wanted, x 6, x 7, x 8, x 9, x 10, x 11, x 12, x 13, x 14, x 15, .chan (some c), x 17, x 18, x 19, x 20, x 21, x 22, x 23, x 24, x 25, x 26, x 27, x 28, x 29, x 30, x 31], []⟩
abbrev msgV (m : MsgS) : Value := .agg (msgCells m)
theorem frT_eq (y : Value) (Br Bo N c : Nat) (wanted : Bool) (a3 a6 a7 a8 a9 a10 a11 a12 a13 a14 a15 a17 a18 a19 a20 a21 a22 a23 a24 a25 a26 a27 a28 a29 a30 a31 : Value) : (⟨#[y, .pointer (some ⟨Br, 0, none⟩), .pointer (some ⟨Bo, 0, none⟩), a3, .chan (some N), .bool wanted, a6, a7, a8, a9, a10, a11, a12, a13, a14, a15, .chan (some c), a17, a18, a19, a20, a21, a22, a23, a24, a25, a26, a27, a28, a29, a30, a31], []⟩ : Act) = frT y Br Bo N c wanted (fun i => (#[undef, undef, undef, a3, undef, undef, a6, a7, a8, a9, a10, a11, a12, a13, a14, a15, undef, a17, a18, a19, a20, a21, a22, a23, a24, a25, a26, a27, a28, a29, a30, a31] : Array Value).getD i undef) := rfl
theorem through_calls (q : Nat) (room : Int) (w : World) : Calls Tryz.prog 172 #[.pointer (some ⟨q, 0, none⟩), .int .i64 room] w fun e w' => e = .returned (.func (.func 192) #[] #[.pointer (some ⟨w.heap.size + 1, 0, none⟩), .pointer (some ⟨w.heap.size, 0, none⟩)]) /\ w' = (w.alloc (Obj.cells #[.pointer (some ⟨q, 0, none⟩)] 198)).alloc (Obj.cells #[.int .i64 room] 3) := by
 go_enter Tryz.func172, Tryz.ntmps172
 go_wp2_with fail
 go_ret
 exact ⟨rfl, rfl⟩
set_option maxHeartbeats 4000000 in
set_option maxRecDepth 100000 in
theorem through1_calls (n l q c cap s r room Br Bo : Nat) (v0 : Value) (L : List MsgS) (w : World) (X : Nat -> Prop) (J : List MsgS -> World -> Prop) (Jx : World -> Prop)
  (hq : BoxAt w q 168 #[v0, .chan (some c)]) (hc : w.heap[c]? = some (.chan cap (L.map msgV).toArray false s r false)) (hBr : BoxAt w Br 3 #[.int .i64 (room : Int)]) (hBo : BoxAt w Bo 198 #[.pointer (some ⟨q, 0, none⟩)]) (hroom : L.length <= room) (hr9 : room <= 1000000000)
  (hX : ∀ k, X k -> k < w.heap.size /\ k ≠ c /\ k ≠ q /\ k ≠ Br /\ k ≠ Bo)
  (hJ : ∀ p A B, J p A -> Kept (fun k => k = c \/ k = w.heap.size \/ k = q) A B -> J p B) (hJx : ∀ A B, Jx A -> Kept (fun k => k = c \/ k = w.heap.size \/ k = q) A B -> Jx B) (h0 : J [] w)
  (hY : ∀ p m W1, p ++ [m] <+: L -> J p W1 -> YieldAt Fence.wide (n - 1) Tryz.prog l #[msgV m] W1 fun e W' => ((e = .returned (.bool true) /\ J (p ++ [m]) W') \/ (e = .returned (.bool false) /\ Jx W')) /\ Kept X W1 W') :
  CallsIn Fence.wide n Tryz.prog 192 (#[.func (.yield l) #[] #[]] ++ #[.pointer (some ⟨Br, 0, none⟩), .pointer (some ⟨Bo, 0, none⟩)]) w fun e W' => (∃ v, e = .returned v) /\ (J L W' \/ Jx W') /\ BoxAt W' q 168 #[v0, .chan (some w.heap.size)] /\ ChanAt W' w.heap.size room L /\ Kept (fun k => X k \/ k = c \/ k = q) w W' := by
 refine callsIn_wide.2 ?_
 refine calls_of_walkN Tryz.func192 rfl ?_ (by rintro w' ⟨⟨v, h⟩, -⟩; cases h)
 simp only [Tryz.ntmps192, List.size_toArray, List.length_cons, List.length_nil, Nat.reduceAdd, Nat.reduceSub, Array.replicate_succ, Array.replicate_zero, List.push_toArray, List.append_toArray, List.nil_append, List.cons_append]
 have hmk := mkChanN room hr9
 have b1 := hBr.cell (o := 0) rfl
 refine WalkN.step (fun K hK => ?_)
 go_wp2_with fail
 obtain ⟨N, hN⟩ : ∃ N, w.heap.size = N := ⟨_, rfl⟩
 obtain ⟨W1, hW1⟩ : ∃ W1, w.alloc (.chan room #[] false 0 0 false) = W1 := ⟨_, rfl⟩
 have k1 : Kept (fun _ => False) w W1 := by rw [<- hW1]; exact Kept.alloc _ _ _
 have n1 : W1.heap[N]? = some (.chan room #[] false 0 0 false) := by rw [<- hW1, <- hN]; exact World.alloc_heap_new w _
 have s1 : W1.heap.size = N + 1 := by rw [<- hW1, <- hN]; simp
 obtain ⟨W2, hW2⟩ : ∃ W2, W1.setChan c cap (L.map msgV).toArray true s r false = W2 := ⟨_, rfl⟩
 have hcl : ∀ ats ty, (Builtin.close_ ats ty #[.chan (some c)]).run Tryz.prog W1 = .ok (.tuple #[]) W2 := fun ats ty => by rw [<- hW2]; exact run_close_open ats ty (k1.heap hc (fun h => h))
 have hcw : c < w.heap.size := (Array.getElem?_eq_some_iff.1 hc).1
 have k2 : Kept (· = c) W1 W2 := by rw [<- hW2]; exact (Kept.refl _ _).setChan (.inl (by rfl)) _ _ _ _ _ _
 have c2 : W2.heap[c]? = some (.chan cap (L.map msgV).toArray true s r false) := by rw [<- hW2]; exact chan_set (by omega) _ _ _ _ _ _
 have n2 : W2.heap[N]? = some (.chan room #[] false 0 0 false) := k2.heap n1 (by omega)
 have hqc : q ≠ c := fun e => by subst e; have h1 : w.heap[q]? = _ := hq; rw [hc] at h1; cases h1
 have hoc : Bo ≠ c := fun e => by subst e; have h1 : w.heap[Bo]? = _ := hBo; rw [hc] at h1; cases h1
 have q2 := (hq.kept k1 (fun h => h)).kept k2 hqc
 have o2 := (hBo.kept k1 (fun h => h)).kept k2 hoc
 have y1 := (hq.kept k1 (fun h => h)).cell (o := 1) rfl
 have z1 := (hBo.kept k1 (fun h => h)).cell (o := 0) rfl
 rw [hW1, hN]
 have H2 : Hid (Kept (· = c) w W2) := (k1.mono (fun _ _ h => h.elim)).trans k2
 have HQ2 := hid_of q2
 have HO2 := hid_of o2
 clear hmk b1 k1 k2 hW1
 refine WalkN.step (fun K hK => ?_)
 go_wp2_with fail
 clear hcl y1 z1 hW2
 refine WalkN.step (fun K hK => ?_)
 go_wp2_with fail
 have y1 := HQ2.out.cell (o := 1) rfl
 have z1 := HO2.out.cell (o := 0) rfl
 refine WalkN.seq ?_
 refine WalkN.step (fun K hK => ?_)
 go_wp2_with fail
 refine WalkN.block ?_
 refine WalkN.loop (fun m a W => ∃ (pre rest : List MsgS) (wanted : Bool) (x : Nat -> Value) (r1 s2 r2 : Nat), rest.length = m /\ L = pre ++ rest /\ a = frT (.func (.yield l) #[] #[]) Br Bo N c wanted x /\ W.heap[c]? = some (.chan cap (rest.map msgV).toArray true s r1 false) /\ W.heap[N]? = some (.chan room (pre.map msgV).toArray false s2 r2 false) /\ Kept (fun k => X k \/ k = c) w W /\ (if wanted then J pre W else Jx W)) L.length ?start ?round
 case start =>
  refine ⟨[], L, true, fun i => (#[.func (.yield l) #[] #[], undef, undef, undef, undef, undef, undef, .int .i64 (room : Int), .chan (some N), .pointer (some ⟨q, 0, none⟩), .pointer (some ⟨q, 0, none⟩), .pointer (some ⟨q, 1, none⟩), .chan (some c), .pointer (some ⟨q, 0, none⟩), .pointer (some ⟨q, 0, none⟩), .pointer (some ⟨q, 1, none⟩)] : Array Value).getD i undef, r, 0, 0, rfl, rfl, ?_, c2, n2, H2.out.mono (fun _ _ h => .inr h), hJ _ _ _ h0 (H2.out.mono (fun _ _ h => .inl h))⟩
  rfl
 case round =>
  rintro m a W ⟨pre, rest, wanted, x, r1, s2, r2, hm, hL, rfl, hcW, hnW, hkW, hJW⟩
  refine WalkN.seq (WalkN.region ?_)
  change WalkO _ _ [0, 1] _ _ _
  have hcN : c ≠ N := by omega
  cases rest with
  | nil =>
   obtain ⟨z, hr⟩ : ∃ z, (execOp (frT (.func (.yield l) #[] #[]) Br Bo N c wanted x).eval { dst := some 17, op := Op.recv 166 (Operand.tmp 16) true, type := 0, pos := "link.go:56", after := #[], guard := none }).run Tryz.prog W = .ok (.comm #[Conc.rcase c z] true (.recv true)) W := by
    simp [go_sem, Conc.rcase]
   refine WalkO.shut (ok := true) rfl rfl hr (by simpa using hcW) ?_
   simp only [Conc.got, if_true]
   refine WalkO.oper rfl rfl (fun K hK => ?_)
   go_simp
   rw [uponV_value]
   refine hK _ _ (WalkO.nil ?_)
   clear hK K
   refine WalkN.seq (WalkN.cond (t := false) rfl ?_)
   refine WalkN.of_wp (wp_exit ?_)
   simp only [Exit.then, Exit.inBlock, if_true]
   have hqX : ¬ (X q \/ q = c) := fun h => by rcases h with h | h; exact (hX q h).2.2.1 rfl; exact hqc h
   have hoX : ¬ (X Bo \/ Bo = c) := fun h => by rcases h with h | h; exact (hX Bo h).2.2.2.2 rfl; exact hoc h
   have hqW := hq.kept hkW hqX
   have u0 := (hBo.kept hkW hoX).cell (o := 0) rfl
   have u1 := hqW.cell (o := 1) rfl
   have f1 := hqW.frozen 1
   have HQW := hid_of hqW
   have HNW := hid_of hnW
   have HKW := hid_of hkW
   have HJW := hid_of hJW
   have HLP : Hid (L = pre) := by show _ = _; simpa using hL
   clear hqW hnW hkW hJW hL hcW hr n2 c2 n1 y1 z1 q2 o2 hm
   refine WalkN.of_wp ?_
   go_wp2_with fail
   go_end0
   have k9 : Kept (· = q) W (W.setCell ⟨q, 1, none⟩ (.chan (some N))) := (Kept.refl _ _).setCell (.inl (by rfl)) _
   refine ⟨⟨_, rfl⟩, ?_, HQW.out.setAt 1 _, ⟨s2, r2, ?_⟩, (HKW.out.mono (fun k _ h => by rcases h with h | h; exact .inl h; exact .inr (.inl h))).trans (k9.mono (fun k _ h => .inr (.inr h)))⟩
   ·have h9 := HJW.out
    cases wanted with
    | true => exact .inl (by rw [HLP.out]; exact hJ _ _ _ h9 (k9.mono (fun _ _ h => .inr (.inr h))))
    | false => exact .inr (hJx _ _ h9 (k9.mono (fun _ _ h => .inr (.inr h))))
   ·rw [HLP.out]; exact k9.heap HNW.out (fun e => by have := hq.lt; omega)
  | cons m' rest =>
   obtain ⟨z, hr⟩ : ∃ z, (execOp (frT (.func (.yield l) #[] #[]) Br Bo N c wanted x).eval { dst := some 17, op := Op.recv 166 (Operand.tmp 16) true, type := 0, pos := "link.go:56", after := #[], guard := none }).run Tryz.prog W = .ok (.comm #[Conc.rcase c z] true (.recv true)) W := by
    simp [go_sem, Conc.rcase]
   refine WalkO.recv (ok := true) rfl rfl hr hcW (by simp) ?_
   have hg0 : ((((m' :: rest).map msgV).toArray).getD 0 undef) = msgV m' := by simp
   have hg1 : (((m' :: rest).map msgV).toArray).extract 1 (((m' :: rest).map msgV).toArray).size = (rest.map msgV).toArray := by simp; exact List.take_of_length_le (by simp)
   rw [hg0, hg1]
   simp only [Conc.got, if_true]
   obtain ⟨W3, hW3⟩ : ∃ W3, W.setChan c cap (rest.map msgV).toArray true s (r1 + 1) false = W3 := ⟨_, rfl⟩
   rw [hW3]
   refine WalkO.oper rfl rfl (fun K hK => ?_)
   go_simp
   rw [uponV_value]
   refine hK _ _ (WalkO.nil ?_)
   clear hK K
   refine WalkN.seq (WalkN.cond (t := true) rfl ?_)
   refine WalkN.of_wp (wp_skip ?_)
   simp only [Exit.then]
   refine WalkN.block ?_
   refine WalkN.step (fun K hK => ?_)
   go_wp2_with fail
   obtain ⟨W4, hW4⟩ : ∃ W4, W3.alloc (Obj.cells (msgCells m') 140) = W4 := ⟨_, rfl⟩
   have bM : BoxAt W4 W3.heap.size 140 (msgCells m') := by rw [<- hW4]; exact BoxAt.new W3 _ _
   have k3 : Kept (· = c) W W3 := by rw [<- hW3]; exact (Kept.refl _ _).setChan (.inl (by rfl)) _ _ _ _ _ _
   have k4 : Kept (fun _ => False) W3 W4 := by rw [<- hW4]; exact Kept.alloc _ _ _
   have hcl : c < W.heap.size := (Array.getElem?_eq_some_iff.1 hcW).1
   have c3 : W3.heap[c]? = some (.chan cap (rest.map msgV).toArray true s (r1 + 1) false) := by rw [<- hW3]; exact chan_set hcl _ _ _ _ _ _
   have c4 := k4.heap c3 (fun h => h)
   have n4 := k4.heap (k3.heap hnW (fun e => hcN e.symm)) (fun h => h)
   have hNl : N < W4.heap.size := (Array.getElem?_eq_some_iff.1 n4).1
   have s34 : W3.heap.size < W4.heap.size := bM.lt
   rw [hW4]
   clear hW4 hW3
   obtain ⟨m0, m1, m2, m3, m4, m5, m6, m7, m8, m9, m10, m11, m12, m13, m14⟩ := cells15 bM
   refine WalkN.seq (WalkN.region ?_)
   change WalkO _ _ [0, 1, 2] _ _ _
   refine WalkO.oper rfl rfl (fun K hK => ?_)
   go_simp
   rw [uponV_value]
   refine hK _ _ ?_
   clear hK K
   refine WalkO.oper rfl rfl (fun K hK => ?_)
   go_simp
   rw [uponV_value]
   refine hK _ _ ?_
   clear hK K
   have hlen : pre.length < room := by have := congrArg List.length hL; simp at this; omega
   refine WalkO.send (c := N) (v := msgV m') (z := .tuple #[]) rfl rfl (by simp [go_sem, Conc.scase]) n4 (by simpa using hlen) ?_
   refine WalkO.nil ?_
   simp only [Exit.then]
   have hp1 : (pre.map msgV).toArray.push (msgV m') = ((pre ++ [m']).map msgV).toArray := by simp
   rw [hp1]
   obtain ⟨W5, hW5⟩ : ∃ W5, W4.setChan N room ((pre ++ [m']).map msgV).toArray false (s2 + 1) r2 false = W5 := ⟨_, rfl⟩
   have k5 : Kept (· = N) W4 W5 := by rw [<- hW5]; exact (Kept.refl _ _).setChan (.inl (by rfl)) _ _ _ _ _ _
   have n5 : W5.heap[N]? = some (.chan room ((pre ++ [m']).map msgV).toArray false (s2 + 1) r2 false) := by rw [<- hW5]; exact chan_set hNl _ _ _ _ _ _
   have c5 := k5.heap c4 hcN
   have bM5 := bM.kept k5 (fun e => by have := k3.size; have := (Array.getElem?_eq_some_iff.1 hnW).1; omega)
   have kW5 : Kept (fun k => k = c \/ k = N \/ k = q) W W5 := ((k3.mono (fun _ _ h => .inl h)).trans (k4.mono (fun _ _ h => h.elim))).trans (k5.mono (fun _ _ h => .inr (.inl h)))
   rw [hW5]
   have HK5 : Hid (Kept (fun k => X k \/ k = c) w W5) := by
    refine ((hkW.trans (k3.mono (fun _ _ h => .inr h))).trans (k4.mono (fun _ _ h => h.elim))).andThen k5 (fun b hb h => ?_)
    omega
   have HJW := hid_of hJW
   have HL : Hid (L = (pre ++ [m']) ++ rest) := by show _ = _; rw [hL]; simp
   have HN5 := hid_of n5
   have HC5 := hid_of c5
   have HKW5 := hid_of kW5
   have HM : Hid (rest.length < m) := by show _ < _; rw [<- hm]; simp
   clear hW5 bM hr hp1 hg0 hg1 c4 n4 c3 hL hm hJW hkW kW5 k5 k4 k3 n5 c5 hnW hcW m0 m1 m2 m3 m4 m5 m6 m7 m8 m9 m10 m11 m12 m13 m14 c2 n2 n1 y1 z1 q2 o2
   cases wanted with
   | false =>
    refine WalkN.of_wp ?_
    go_wp2_with fail
    exact ⟨_, HM.out, pre ++ [m'], rest, false, _, _, _, _, rfl, HL.out, frT_eq _ _ _ _ _ _ _ _ _ _ _ _ _ _ _ _ _ _ _ _ _ _ _ _ _ _ _ _ _ _ _ _, HC5.out, HN5.out, HK5.out, hJx _ _ HJW.out (by rw [hN]; exact HKW5.out)⟩
   | true =>
    obtain ⟨m0, m1, m2, m3, m4, m5, m6, m7, m8, m9, m10, m11, m12, m13, m14⟩ := cells15 bM5
    obtain ⟨fn, tmps, assign, body, hy, hR⟩ := hY pre m' W5 ⟨rest, HL.out.symm⟩ (hJ _ _ _ HJW.out (by rw [hN]; exact HKW5.out))
    have HR := hid_of hR
    clear hR
    refine WalkN.of_wpIn (n := n) ?_
    gi_wp2
    refine ⟨fun h => (by cases h), ?_⟩
    refine HR.out.mono ?_
    rintro e W6 ⟨hans, hk6⟩
    have HK6 := hid_of hk6
    clear hk6
    have hcX : ¬ X c := fun h => (hX c h).2.1 rfl
    have hNX : ¬ X N := fun h => by have := (hX N h).1; omega
    have HC6 := hid_of (HK6.out.heap HC5.out hcX)
    have HN6 := hid_of (HK6.out.heap HN5.out hNX)
    have HK06 : Hid (Kept (fun k => X k \/ k = c) w W6) := HK5.out.trans (HK6.out.mono (fun _ _ h => .inl h))
    rcases hans with ⟨rfl, hJ6⟩ | ⟨rfl, hJ6⟩
    ·gi_wp2
     exact ⟨_, HM.out, pre ++ [m'], rest, true, _, _, _, _, rfl, HL.out, frT_eq _ _ _ _ _ _ _ _ _ _ _ _ _ _ _ _ _ _ _ _ _ _ _ _ _ _ _ _ _ _ _ _, HC6.out, HN6.out, HK06.out, hJ6⟩
    ·gi_wp2
     exact ⟨_, HM.out, pre ++ [m'], rest, false, _, _, _, _, rfl, HL.out, frT_eq _ _ _ _ _ _ _ _ _ _ _ _ _ _ _ _ _ _ _ _ _ _ _ _ _ _ _ _ _ _ _ _, HC6.out, HN6.out, HK06.out, hJ6⟩
theorem box_setAll {g t : Nat} : ∀ (us : List Value) (o : Nat) (W : World) (cs : Array Value), BoxAt W g t cs -> ∃ cs', BoxAt (putAll W g o us) g t cs' /\ cs'.toList = setAll cs.toList o us
 | [], _, _, cs, h => ⟨cs, h, rfl⟩
 | u :: r, o, W, cs, h => by
  obtain ⟨cs', h1, h2⟩ := box_setAll r (o + 1) _ _ (h.setAt o u)
  refine ⟨cs', h1, ?_⟩
  rw [h2, setAll, Array.toList_setIfInBounds]
theorem box_putAll {g t : Nat} {W : World} {cs : Array Value} (us : List Value) (h : BoxAt W g t cs) (hn : us.length = cs.size) : BoxAt (putAll W g 0 us) g t us.toArray := by
 obtain ⟨cs', h1, h2⟩ := box_setAll us 0 W cs h
 have e : setAll cs.toList 0 us = us := by
  refine List.ext_getElem? fun i => ?_
  rcases Nat.lt_or_ge i us.length with hi | hi
  ·have := setAll_in us cs.toList 0 i hi (by have := Array.length_toList (xs := cs); omega)
   rwa [Nat.zero_add] at this
  ·rw [List.getElem?_eq_none (by rw [setAll_length, Array.length_toList]; omega), List.getElem?_eq_none hi]
 rw [e] at h2
 have : cs' = us.toArray := by rw [<- h2]
 rw [<- this]
 exact h1
theorem below_putAll {n g : Nat} {A : World} (hg : n <= g) : ∀ (us : List Value) (o : Nat) (W : World), Below n A W -> Below n A (putAll W g o us)
 | [], _, _, h => h
 | u :: r, o, _, h => below_putAll hg r _ _ (h.setCell (p := ⟨g, o, none⟩) hg u)
theorem run_len_ch {P : Program} {w : World} {c cap s r : Nat} {buf : Array Value} {cl : Bool} {dir : ChanDir} {e : TypeId} (t ty : TypeId) (ht : P.underlying t = some (.chan dir e)) (hc : w.heap[c]? = some (.chan cap buf cl s r false)) : (Builtin.len_ #[t] ty #[.chan (some c)]).run P w = .ok (goInt buf.size) w := by
 simp [Builtin.len_, run_underlying ht, run_getObj_chan _ _ hc]
theorem run_cap_ch {P : Program} {w : World} {c cap s r : Nat} {buf : Array Value} {cl : Bool} {dir : ChanDir} {e : TypeId} (t ty : TypeId) (ht : P.underlying t = some (.chan dir e)) (hc : w.heap[c]? = some (.chan cap buf cl s r false)) : (Builtin.cap_ #[t] ty #[.chan (some c)]).run P w = .ok (goInt cap) w := by
 simp [Builtin.cap_, run_underlying ht, run_getObj_chan _ _ hc]
attribute [local go_sem] Oper.semAt_some
set_option maxHeartbeats 4000000 in
set_option maxRecDepth 100000 in
theorem widen_calls (q c cap : Nat) (v0 : Value) (L : List MsgS) (w : World) (hq : BoxAt w q 168 #[v0, .chan (some c)]) (hc : ChanAt w c cap L) (hl : L.length <= cap) (h9 : cap <= 400000000) :
  Calls Tryz.prog 191 #[.pointer (some ⟨q, 0, none⟩)] w fun e w' => ∃ v, e = .returned v /\ ∃ N, w.heap.size <= N /\ BoxAt w' q 168 #[v0, .chan (some N)] /\ ChanAt w' N (2 * cap) L /\ Kept (fun k => k = c \/ k = q) w w' := by
 obtain ⟨s, r, hch⟩ := hc
 have hcw : c < w.heap.size := (Array.getElem?_eq_some_iff.1 hch).1
 have hqw := hq.lt
 refine (callsIn_wide (n := 5)).1 ?_
 refine callsIn_of_wp_marks Tryz.func191 rfl trivial ?_ rfl
 simp only [Tryz.ntmps191, List.size_toArray, List.length_cons, List.length_nil, Nat.reduceAdd, Nat.reduceSub, Array.replicate_succ, Array.replicate_zero, List.push_toArray, List.append_toArray, List.nil_append, List.cons_append]
 have y1 := hq.cell (o := 1) rfl
 have hcp : ∀ ty, (Builtin.cap_ #[166] ty #[.chan (some c)]).run Tryz.prog w = .ok (.int .i64 (cap : Int)) w := fun ty => run_cap_ch _ _ Tryz.underlying166 hch
 have hw2 : IntKind.i64.wrap (2 * (cap : Int)) = ((2 * cap : Nat) : Int) := by rw [IntWalk.i64_in _ (by omega)]; omega
 gi_wp2_with fail
 refine ⟨trivial, ?_⟩
 refine callsIn_wide.2 ?_
 refine (through_calls q _ w).mono ?_
 rintro e w1 ⟨rfl, hw1⟩
 have b1 : BoxAt w1 w.heap.size 198 #[.pointer (some ⟨q, 0, none⟩)] := by rw [hw1]; exact (BoxAt.new w _ _).alloc _
 have b2 : BoxAt w1 (w.heap.size + 1) 3 #[.int .i64 ((2 * cap : Nat) : Int)] := by
  rw [hw1, show ((2 * cap : Nat) : Int) = 2 * (cap : Int) by omega]; exact boxAt_at _ _ _ _ (by simp)
 have g1 : Below w.heap.size w w1 := by rw [hw1]; exact ((Below.refl _ _).alloc (Nat.le_refl _) _).alloc (by simp) _
 have s1 : w1.heap.size = w.heap.size + 2 := by rw [hw1]; simp
 have q1 := hq.below g1 hqw
 have c1 : w1.heap[c]? = _ := (g1.block c hcw).trans hch
 clear hw1 y1 hcp hw2
 gi_wp2
 refine range_lawG (n := 5) rfl (enters_of Tryz.func192 (by kernel_rfl) rfl) (fun rec hyield => ?_)
 obtain ⟨V, hV⟩ : ∃ V, (w1.alloc (.deferred (some []))).alloc (.loop (rec .ready none)) = V := ⟨_, rfl⟩
 have gV : Below w1.heap.size w1 V := by rw [<- hV]; exact ((Below.refl _ _).alloc (Nat.le_refl _) _).alloc (by simp) _
 have sV : V.heap.size = w1.heap.size + 2 := by rw [<- hV]; simp
 have lV : V.heap[w1.heap.size + 1]? = some (.loop (rec .ready none)) := by
  have h := World.alloc_heap_new (w1.alloc (.deferred (some []))) (.loop (rec .ready none))
  rw [World.size_alloc] at h; rw [<- hV]; exact h
 have dV : V.heap[w1.heap.size]? = some (.deferred (some [])) := by
  rw [<- hV]; exact (Below.heap_alloc _ _ _ (by simp)).trans (World.alloc_heap_new w1 _)
 rw [hV]
 refine (through1_calls (5 - 1) (w1.heap.size + 1) q c cap s r (2 * cap) (w.heap.size + 1) w.heap.size v0 L V (fun k => k = w1.heap.size + 1)
  (fun _ A => A.heap[w1.heap.size + 1]? = some (.loop (rec .ready none)) /\ A.heap[w1.heap.size]? = some (.deferred (some []))) (fun _ => False)
  (q1.below gV q1.lt) ((gV.block c (by omega)).trans c1) (b2.below gV b2.lt) (b1.below gV b1.lt) (by omega) (by omega) (fun k hk => by omega)
  (fun p A B h hk => ⟨hk.heap h.1 (by omega), hk.heap h.2 (by omega)⟩) (fun _ _ h _ => h) ⟨lV, dV⟩ (fun p m W1 _ h => ?_)).mono ?_
 ·refine hyield _ _ W1 _ h.1 rfl (fun K hK => ?_)
  refine wpIn_skip (hK _ _ h.1 ?_)
  refine wpIn_block (wpIn_skip ?_)
  have k1 : Kept (· = w1.heap.size + 1) W1 (W1.putObj (w1.heap.size + 1) (.loop (rec .busy none))) := Kept.putObj _ _ _ rfl
  have hlt := (Array.getElem?_eq_some_iff.1 h.1).1
  refine ⟨World.putObj_heap_same hlt, .inl ⟨rfl, World.putObj_heap_same (Nat.lt_of_lt_of_le hlt k1.size), ?_⟩, k1.trans (Kept.putObj _ _ _ rfl)⟩
  exact (World.putObj_heap_other (by omega)).trans (k1.heap h.2 (by omega))
 ·rintro e W' ⟨⟨v, rfl⟩, hj, hq', hc', hk'⟩
  have hj : W'.heap[w1.heap.size + 1]? = some (.loop (rec .ready none)) /\ W'.heap[w1.heap.size]? = some (.deferred (some [])) := by
   rcases hj with h | h
   ·exact h
   ·exact h.elim
  refine ⟨⟨_, rfl⟩, .inl ⟨hj.1, ?_⟩⟩
  have k9 : Kept (· = w1.heap.size + 1) W' (W'.putObj (w1.heap.size + 1) (.loop (rec .exhausted none))) := Kept.putObj _ _ _ rfl
  have hd9 := k9.heap hj.2 (by omega)
  refine ⟨by simp, .inl ⟨_, _, rfl, run_takeDeferred hd9, ?_⟩⟩
  have k10 : Kept (· = w1.heap.size) (W'.putObj (w1.heap.size + 1) (.loop (rec .exhausted none))) ((W'.putObj (w1.heap.size + 1) (.loop (rec .exhausted none))).putObj w1.heap.size (.deferred none)) := Kept.putObj _ _ _ rfl
  have kk : Kept (fun k => k = w1.heap.size \/ k = w1.heap.size + 1) W' ((W'.putObj (w1.heap.size + 1) (.loop (rec .exhausted none))).putObj w1.heap.size (.deferred none)) := (k9.mono (fun _ _ h => .inr h)).trans (k10.mono (fun _ _ h => .inl h))
  refine ⟨.tuple #[], by simp [results, Tryz.f191], _, rfl, V.heap.size, by omega, hq'.kept kk (by omega), hc'.kept kk (by omega), ?_⟩
  have kV : Kept (fun k => k = c \/ k = q) w V := Kept.of_below (g1.trans (gV.mono g1.size)) (fun b h1 h2 => by omega)
  exact (kV.andThen hk' (fun b hb h => by omega)).andThen kk (fun b hb h => by omega)
abbrev frK (q b : Nat) (m : MsgS) (x : Nat -> Value) : Act := ⟨#[.pointer (some ⟨q, 0, none⟩), msgV m, undef, .pointer (some ⟨b, 0, none⟩), x 4, x 5, x 6, x 7, x 8, x 9, x 10, x 11, x 12, x 13, x 14, x 15, x 16, undef, undef, undef, undef, undef], []⟩
theorem frK_eq (q b : Nat) (m : MsgS) (a4 a5 a6 a7 a8 a9 a10 a11 a12 a13 a14 a15 a16 : Value) : (⟨#[.pointer (some ⟨q, 0, none⟩), msgV m, undef, .pointer (some ⟨b, 0, none⟩), a4, a5, a6, a7, a8, a9, a10, a11, a12, a13, a14, a15, a16, undef, undef, undef, undef, undef], []⟩ : Act) = frK q b m (fun i => (#[undef, undef, undef, undef, a4, a5, a6, a7, a8, a9, a10, a11, a12, a13, a14, a15, a16] : Array Value).getD i undef) := rfl
set_option maxHeartbeats 4000000 in
set_option maxRecDepth 100000 in
theorem keep_out (q c cap : Nat) (v0 : Value) (L : List MsgS) (m : MsgS) (w : World) (hq : BoxAt w q 168 #[v0, .chan (some c)]) (hc : ChanAt w c cap L) (hl : L.length <= cap) (h4 : 4 <= cap) (h9 : cap <= 400000000) :
  Calls Tryz.prog 171 #[.pointer (some ⟨q, 0, none⟩), msgV m] w fun e w' => (∃ v, e = .returned v) /\ ∃ N cap', (N = c \/ w.heap.size <= N) /\ BoxAt w' q 168 #[v0, .chan (some N)] /\ ChanAt w' N cap' (L ++ [m]) /\ (cap' = cap \/ (cap' = 2 * cap /\ L.length = cap)) /\ L.length + 1 <= cap' /\ Kept (fun k => k = c \/ k = q) w w' := by
 refine calls_of_walkN Tryz.func171 rfl ?_ (by rintro w' ⟨⟨v, h⟩, -⟩; cases h)
 simp only [Tryz.ntmps171, List.size_toArray, List.length_cons, List.length_nil, Nat.reduceAdd, Nat.reduceSub, Array.replicate_succ, Array.replicate_zero, List.push_toArray, List.append_toArray, List.nil_append, List.cons_append]
 refine WalkN.step (fun K hK => ?_)
 go_wp2_with fail
 obtain ⟨W1, hW1⟩ : ∃ W1, w.alloc (Obj.cells (msgCells m) 140) = W1 := ⟨_, rfl⟩
 have bM : BoxAt W1 w.heap.size 140 (msgCells m) := by rw [<- hW1]; exact BoxAt.new w _ _
 have g1 : Below w.heap.size w W1 := by rw [<- hW1]; exact (Below.refl _ _).alloc (Nat.le_refl _) _
 rw [hW1]
 clear hW1
 obtain ⟨s, r, hch⟩ := hc
 have hcw : c < w.heap.size := (Array.getElem?_eq_some_iff.1 hch).1
 have q1 := hq.below g1 hq.lt
 have c1 : W1.heap[c]? = some (.chan cap (L.map msgV).toArray false s r false) := (g1.block c hcw).trans hch
 have hsz : ((L.map msgV).toArray).size = L.length := by simp
 have hln : ∀ ty (U : World), U.heap[c]? = W1.heap[c]? -> (Builtin.len_ #[166] ty #[.chan (some c)]).run Tryz.prog U = .ok (.int .i64 (L.length : Int)) U := fun ty U hU => by
  have := run_len_ch (P := Tryz.prog) (w := U) 166 ty Tryz.underlying166 (hU.trans c1)
  rw [hsz] at this
  exact this
 have hcp : ∀ ty (U : World), U.heap[c]? = W1.heap[c]? -> (Builtin.cap_ #[166] ty #[.chan (some c)]).run Tryz.prog U = .ok (.int .i64 (cap : Int)) U := fun ty U hU => run_cap_ch _ _ Tryz.underlying166 (hU.trans c1)
 have l0 := fun ty k => hln ty (W1.drewN k) rfl
 have p0 := fun ty k => hcp ty (W1.drewN k) rfl
 have y1 := q1.cell (o := 1) rfl
 have HQ1 := hid_of q1
 have HC1 := hid_of c1
 have HBM := hid_of bM
 have HG1 := hid_of g1
 clear hln hcp q1 c1 bM g1 hch hq
 have HW : Hid (∀ U, Below W1.heap.size W1 U -> L.length = cap -> Calls Tryz.prog 191 #[.pointer (some ⟨q, 0, none⟩)] U fun e w' => ∃ v, e = .returned v /\ ∃ N, w.heap.size <= N /\ BoxAt w' q 168 #[v0, .chan (some N)] /\ ChanAt w' N (2 * cap) L /\ Kept (fun k => k = c \/ k = q) W1 w') := fun U hU hf => by
  refine (widen_calls q c cap v0 L U (HQ1.out.below hU HQ1.out.lt) ⟨s, r, (hU.block c (Nat.lt_of_lt_of_le hcw HG1.out.size)).trans HC1.out⟩ hl h9).mono ?_
  rintro e w' ⟨v, rfl, N, h1, h2, h3, h5⟩
  exact ⟨v, rfl, N, Nat.le_trans (Nat.le_trans HG1.out.size hU.size) h1, h2, h3, (Kept.of_below hU (X := fun k => k = c \/ k = q) (fun b h1 h2 => absurd h1 (Nat.not_lt_of_le h2))).trans h5⟩
 refine WalkN.seq (WalkN.mono (Q := Exit.then (fun a' W => ∃ (x : Nat -> Value) (N cap' : Nat), a' = frK q w.heap.size m x /\ (N = c \/ w.heap.size <= N) /\ BoxAt W q 168 #[v0, .chan (some N)] /\ ChanAt W N cap' L /\ (cap' = cap \/ (cap' = 2 * cap /\ L.length = cap)) /\ L.length + 1 <= cap' /\ Kept (fun k => k = c \/ k = q) W1 W) (fun _ _ _ => False)) ?_ ?_)
 ·refine WalkN.of_wp ?_
  by_cases hfull : L.length = cap
  ·have he : ((L.length : Int) == (cap : Int)) = true := by simp [hfull]
   have HF : Hid (L.length = cap) := hfull
   clear hfull
   go_upto_region 1 with fail
   go_quiet (fail)
   go_wp2_with (go_at_call 191; refine (HW.out _ (below_drewN (Below.refl _ _) _) HF.out).mono ?_; rintro e w2 ⟨v2, rfl, N, hN, h1, h2, h3⟩)
   exact ⟨_, N, 2 * cap, frK_eq _ _ _ _ _ _ _ _ _ _ _ _ _ _ _ _, .inr hN, h1, h2, .inr ⟨rfl, HF.out⟩, by have := HF.out; omega, h3⟩
  ·have he : ((L.length : Int) == (cap : Int)) = false := by rw [beq_eq_false_iff_ne]; omega
   go_upto_region 1 with fail
   go_quiet (fail)
   go_wp2_with fail
   have hb := below_drewN (Below.refl W1.heap.size W1) nq
   exact ⟨_, c, cap, frK_eq _ _ _ _ _ _ _ _ _ _ _ _ _ _ _ _, .inl rfl, HQ1.out.below hb HQ1.out.lt, ⟨s, r, HC1.out⟩, .inl rfl, by omega, Kept.of_below hb (fun b h1 h2 => by omega)⟩
 ·rintro e a' W hp
  cases e with
  | normal =>
   obtain ⟨x, N, cap', rfl, hN, hqW, hcW, hcap, hlen, hkW⟩ := hp
   simp only [Exit.then]
   obtain ⟨s', r', hcW⟩ := hcW
   have bW : BoxAt W w.heap.size 140 (msgCells m) := HBM.out.kept hkW (fun h => by rcases h with h | h; omega; have := HQ1.out; subst h; have h1 : W1.heap[w.heap.size]? = _ := HBM.out; have h2 : W1.heap[w.heap.size]? = _ := HQ1.out; rw [h1] at h2; cases h2)
   refine WalkN.region_any (L := [[0, 1, 2, 3, 4, 5], [0, 1, 2, 4, 3, 5], [0, 1, 4, 2, 3, 5], [0, 4, 1, 2, 3, 5], [4, 0, 1, 2, 3, 5]]) (by kernel_rfl) (by kernel_rfl) ?_
   obtain ⟨U, hU⟩ : ∃ U, ({ W with drawn := W.drawn + 1 } : World) = U := ⟨_, rfl⟩
   have kU : Kept (fun k => k = c \/ k = q) W1 U := by rw [<- hU]; exact hkW.drew
   have qU : BoxAt U q 168 #[v0, .chan (some N)] := by rw [<- hU]; exact hqW
   have cU : U.heap[N]? = some (.chan cap' (L.map msgV).toArray false s' r' false) := by rw [<- hU]; exact hcW
   have bU : BoxAt U w.heap.size 140 (msgCells m) := by rw [<- hU]; exact bW
   rw [hU]
   have y9 := qU.cell (o := 1) rfl
   obtain ⟨m0, m1, m2, m3, m4, m5, m6, m7, m8, m9, m10, m11, m12, m13, m14⟩ := cells15 bU
   have HQU := hid_of qU
   have HKU := hid_of kU
   have hNU : N < U.heap.size := (Array.getElem?_eq_some_iff.1 cU).1
   have hqN : q ≠ N := fun e => by subst e; have h1 : U.heap[q]? = _ := qU; rw [cU] at h1; cases h1
   clear hU bW hqW hcW hkW l0 p0 y1 bU qU kU HBM HC1 HQ1 HW
   intro l hl'
   simp only [List.mem_cons, List.not_mem_nil, or_false] at hl'
   rcases hl' with rfl | rfl | rfl | rfl | rfl
   all_goals
    iterate 5 (refine WalkO.oper rfl rfl (fun K hK => ?_); go_simp; rw [uponV_value]; refine hK _ _ ?_; clear hK K)
    refine WalkO.send (c := N) (v := msgV m) (z := .tuple #[]) rfl rfl (by simp [go_sem, Conc.scase]) cU (by simp; omega) ?_
    refine WalkO.nil ?_
    have hp1 : (L.map msgV).toArray.push (msgV m) = ((L ++ [m]).map msgV).toArray := by simp
    rw [hp1]
    have k9 : Kept (· = N) U (U.setChan N cap' ((L ++ [m]).map msgV).toArray false (s' + 1) r' false) := (Kept.refl _ _).setChan (.inl (by rfl)) _ _ _ _ _ _
    refine ⟨rfl, _, results_none rfl _ _ _, ⟨_, rfl⟩, N, cap', hN, HQU.out.kept k9 hqN, ⟨_, _, chan_set hNU _ _ _ _ _ _⟩, hcap, hlen, ?_⟩
    refine ((Kept.of_below HG1.out (X := fun k => k = c \/ k = q) (fun b h1 h2 => by omega)).trans HKU.out).andThen k9 (fun b hb h => ?_)
    rcases hN with h' | h'
    ·exact .inl (h.trans h')
    ·omega
  | exit i => exact hp.elim
  | goto t => exact hp.elim
  | ret => exact hp.elim
  | panic ch => exact hp.elim
  | outgrown => exact hp.elim
def LinkS.sent (l : LinkS) (m : MsgS) : LinkS := { l with all := l.all ++ [{ m with no := (l.all.length : Int) + 1 }] }
set_option maxHeartbeats 4000000 in
set_option maxRecDepth 100000 in
theorem send_out (X : Nat -> Prop) (q : Nat) (l : LinkS) (m : MsgS) (w : World) (h : OutAt X w q l) (hk : l.known.toNat <= l.all.length) (hn : l.all.length <= 100000000) :
  Calls Tryz.prog 159 #[.pointer (some ⟨q, 0, none⟩), msgV m] w fun e w' => ∃ v, e = .returned v /\ (v = msgV { m with no := (l.all.length : Int) + 1 } /\ OutAt (fun b => X b \/ w.heap.size <= b) w' q (l.sent m) /\ Kept X w w') := by
 obtain ⟨c, cap, hq, hXq, hc, hXc, h4, hcap, hlen⟩ := h
 obtain ⟨n, hnn⟩ : ∃ n, l.all.length = n := ⟨_, rfl⟩
 rw [hnn] at hq hk hn hcap
 have hwr : IntKind.i64.wrap ((n : Int) + 1) = (n : Int) + 1 := IntWalk.i64_in _ (by omega)
 obtain ⟨Z, hZ⟩ : ∃ Z, (w.alloc (Obj.cells (msgCells m) 140)).alloc (Obj.cells (msgCells msg0) 140) = Z := ⟨_, rfl⟩
 have gZ : Below w.heap.size w Z := by rw [<- hZ]; exact ((Below.refl _ _).alloc (Nat.le_refl _) _).alloc (by simp) _
 have sZ : Z.heap.size = w.heap.size + 2 := by rw [<- hZ]; simp
 have bM : BoxAt Z w.heap.size 140 (msgCells m) := by rw [<- hZ]; exact (BoxAt.new w _ _).alloc _
 have bR : BoxAt Z (w.heap.size + 1) 140 (msgCells msg0) := by rw [<- hZ]; exact boxAt_at _ _ _ _ (by simp)
 have qZ := hq.below gZ hq.lt
 have hqw := hq.lt
 have hcw := hc.lt
 have cZ : ChanAt Z c cap l.left := hc.below gZ
 have y0 := qZ.cell (o := 0) rfl
 have f0 := qZ.frozen 0
 have f2 := bM.frozen 2
 have e2 := bM.cell (o := 2) rfl
 obtain ⟨Y, hY⟩ : ∃ Y, (Z.setCell ⟨q, 0, none⟩ (.int .i64 ((n : Int) + 1))).setCell ⟨w.heap.size, 2, none⟩ (.int .i64 ((n : Int) + 1)) = Y := ⟨_, rfl⟩
 have qY : BoxAt Y q 168 #[.int .i64 ((n : Int) + 1), .chan (some c)] := by rw [<- hY]; exact (qZ.setAt 0 _).far _ _ (by show q ≠ w.heap.size; omega)
 have bY : BoxAt Y w.heap.size 140 (msgCells { m with no := (n : Int) + 1 }) := by rw [<- hY]; exact (bM.far ⟨q, 0, none⟩ _ (by show w.heap.size ≠ q; omega)).setAt 2 _
 have rY : BoxAt Y (w.heap.size + 1) 140 (msgCells msg0) := by rw [<- hY]; exact (bR.far ⟨q, 0, none⟩ _ (by show w.heap.size + 1 ≠ q; omega)).far ⟨w.heap.size, 2, none⟩ _ (by show w.heap.size + 1 ≠ w.heap.size; omega)
 have kY : Kept (fun k => k = q \/ k = w.heap.size) Z Y := by rw [<- hY]; exact ((Kept.refl _ _).setCell (.inl (by exact .inl rfl)) _).setCell (.inl (by exact .inr rfl)) _
 have cY : ChanAt Y c cap l.left := cZ.kept kY (fun e => by
  rcases e with e | e
  ·obtain ⟨s, r, h'⟩ := hc; subst e; have h1 : w.heap[c]? = _ := hq; rw [h'] at h1; cases h1
  ·omega)
 have HK := hid_of (keep_out q c cap (.int .i64 ((n : Int) + 1)) l.left { m with no := (n : Int) + 1 } Y qY cY hlen h4 (by omega))
 have HBY := hid_of bY
 have HRY := hid_of rY
 have HKY := hid_of kY
 have HGZ := hid_of gZ
 have HBM := hid_of bM
 obtain ⟨m0, m1, m2, m3, m4, m5, m6, m7, m8, m9, m10, m11, m12, m13, m14⟩ := cells15 bM
 obtain ⟨n0, n1, n2, n3, n4, n5, n6, n7, n8, n9, n10, n11, n12, n13, n14⟩ := cells15 bY
 have sY := kY.size
 clear bM bR qZ cZ bY rY kY cY qY gZ hq hc
 go_enter Tryz.func159, Tryz.ntmps159
 go_upto_region 1 with fail
 have e0 : (w.alloc (Obj.cells (msgCells m) 140)).alloc (Obj.cells (msgCells msg0) 140) = Z := hZ
 simp only [msg0] at e0
 rw [e0]
 clear e0 hZ
 go_upto_region 3 with fail
 clear hY y0 f0 f2 e2 m0 m1 m2 m3 m4 m5 m6 m7 m8 m9 m10 m11 m12 m13 m14
 go_upto_region 4 with (go_at_call 171; refine HK.out.mono ?_; rintro e w2 ⟨⟨v2, rfl⟩, N, cap', hN, hq2, hc2, hcap2, hlen2, hk2⟩)
 have b2 := HBY.out.kept hk2 (fun e => by omega)
 have r2 := HRY.out.kept hk2 (fun e => by omega)
 have HQ2 := hid_of hq2
 have HC2 := hid_of hc2
 have HK2 := hid_of hk2
 have HB2 := hid_of b2
 have HR2 := hid_of r2
 have HCAP := hid_of hcap2
 have HLEN : Hid (l.left.length + 1 <= cap') := hlen2
 have hNN : Hid (N = c \/ Y.heap.size <= N) := hN
 clear n0 n1 n2 n3 n4 n5 n6 n7 n8 n9 n10 n11 n12 n13 n14 hq2 hc2 hk2 hcap2 hlen2 hN
 have fr := r2.frozen
 obtain ⟨n0, n1, n2, n3, n4, n5, n6, n7, n8, n9, n10, n11, n12, n13, n14⟩ := cells15 b2
 obtain ⟨z0, z1, z2, z3, z4, z5, z6, z7, z8, z9, z10, z11, z12, z13, z14⟩ := cells15 r2
 clear b2 r2
 go_wp2_with fail
 change bodyPost Tryz.prog Tryz.f159 _ Exit.ret _ (putAll w2 (w.heap.size + 1) 0 (msgEnc { m with no := (n : Int) + 1 }))
 have kP : Kept (· = w.heap.size + 1) w2 (putAll w2 (w.heap.size + 1) 0 (msgEnc { m with no := (n : Int) + 1 })) := kept_putAll (X := fun x => x = w.heap.size + 1) (.inl rfl) _ _ _ (Kept.refl _ _)
 have hbz := box_putAll (msgEnc { m with no := (n : Int) + 1 }) HR2.out rfl
 generalize putAll w2 (w.heap.size + 1) 0 (msgEnc { m with no := (n : Int) + 1 }) = V at kP hbz ⊢
 have hbv : BoxAt V (w.heap.size + 1) 140 (msgCells { m with no := (n : Int) + 1 }) := hbz
 obtain ⟨q0, q1, q2, q3, q4, q5, q6, q7, q8, q9, q10, q11, q12, q13, q14⟩ := cells15 hbv
 refine bodyPost_ret (v := msgV { m with no := (n : Int) + 1 }) ?_ rfl ⟨_, rfl, ?_⟩
 ·simp [results, Tryz.results159, go_sem, q0, q1, q2, q3, q4, q5, q6, q7, q8, q9, q10, q11, q12, q13, q14]
 ·have hqw2 := HQ2.out.lt
  have kall : Kept (fun k => k = c \/ k = q) w V := (((Kept.of_below HGZ.out (X := fun k => k = c \/ k = q) (fun b h1 h2 => by omega)).andThen HKY.out (fun b hb h => by omega)).andThen HK2.out (fun b hb h => h)).andThen kP (fun b hb h => by omega)
  refine ⟨by first | rfl | rw [hnn], ⟨N, cap', ?_, .inl hXq, ?_, ?_, ?_, ?_, ?_⟩, kall.mono (fun b _ h => by rcases h with h | h; subst h; exact hXc; subst h; exact hXq)⟩
  ·have : (((l.sent m).all.length : Nat) : Int) = (n : Int) + 1 := by simp [LinkS.sent, hnn]
   rw [this]
   exact HQ2.out.kept kP (by omega)
  ·have : (l.sent m).left = l.left ++ [{ m with no := (n : Int) + 1 }] := by
    simp only [LinkS.left, LinkS.sent, hnn]
    rw [List.drop_append_of_le_length (by omega)]
   rw [this]
   exact HC2.out.kept kP (fun e => by
    rcases hNN.out with h | h
    ·omega
    ·omega)
  ·rcases hNN.out with h | h
   ·exact .inl (by rw [h]; exact hXc)
   ·exact .inr (by omega)
  ·rcases HCAP.out with h | h <;> omega
  ·have : (l.sent m).all.length = n + 1 := by simp [LinkS.sent, hnn]
   rw [this]
   have hll : l.left.length <= n := by simp only [LinkS.left, List.length_drop, hnn]; omega
   rcases HCAP.out with h | h <;> omega
  ·have : (l.sent m).left.length = l.left.length + 1 := by
    simp only [LinkS.left, LinkS.sent, List.length_drop, List.length_append, List.length_singleton, hnn]; omega
   rw [this]
   exact HLEN.out
end Go.Proofs.YteahdfeialekbaaGreatDoor
