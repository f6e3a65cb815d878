/-
  What a program, a task and their values are as plain data, and how a program lies in memory: definitions and small facts on them.
-/
import Derived.Test.YtfanaanofjhlkaaDoorRange
import Derived.WalkKit
namespace Go.Proofs.YtfanaanofjhlkaaDoor
open Go Go.RowKit

/-- A kid of a kind: its kind, and by how much less its argument is. -/
structure KidS where
  kind : Int
  less : Int
/-- A kind of tasks. -/
structure KindS where
  A : Int
  B : Int
  kids : List KidS
/-- A task: the digits of its place in the tree, its kind, its argument. -/
structure TaskS where
  id : ByteArray
  kind : Int
  arg : Int

/-- A number of a kind of n kinds? -/
def numB (k n : Int) : Bool := decide (0 ≤ k ∧ k ≤ n - 1)
def rangeB (x lo hi : Int) : Bool := decide (lo ≤ x ∧ x ≤ hi)
def kidB (n : Int) (c : KidS) : Bool := numB c.kind n && rangeB c.less 1 9
def kindB (n : Int) (k : KindS) : Bool := rangeB k.A (-1000) 1000 && rangeB k.B (-1000) 1000 && decide (k.kids.length ≤ 3) && k.kids.all (kidB n)
def progB (ks : List KindS) (kind arg : Int) : Bool := rangeB ks.length 1 5 && ks.all (kindB ks.length) && numB kind ks.length && rangeB arg 0 12

/-- The i-th kid's digit, and its place below a task's. -/
def digit (i : Nat) : UInt8 := UInt8.ofNat (48 + i)
def kidId (id : ByteArray) (i : Nat) : ByteArray := id ++ ⟨#[digit i]⟩
/-- The children, from the i-th kid on. -/
def childrenFrom (id : ByteArray) (x : Int) : Nat → List KidS → List TaskS
  | _, [] => []
  | i, c :: r => if c.less ≤ x then ⟨kidId id i, c.kind, x - c.less⟩ :: childrenFrom id x (i + 1) r else childrenFrom id x (i + 1) r
def kindAt (ks : List KindS) (k : Int) : KindS := ks[k.toNat]?.getD ⟨0, 0, []⟩
def children (ks : List KindS) (t : TaskS) : List TaskS := childrenFrom t.id t.arg 0 (kindAt ks t.kind).kids
/-- A task and all below it, each ahead of its children; f: an upper bound of its argument. -/
def tree (ks : List KindS) : Nat → TaskS → List TaskS
  | 0, t => [t]
  | f + 1, t => t :: (children ks t).flatMap (tree ks f)
/-- What a task comes to. -/
def valueOf (ks : List KindS) (t : TaskS) : Int := (kindAt ks t.kind).A * t.arg + (kindAt ks t.kind).B

/-- A task as a value of the model. -/
def taskV (t : TaskS) : Value := .agg #[.string t.id, .int .i64 t.kind, .int .i64 t.arg]

/-- A list of kids lies at a slice's value, in blocks that ok names. -/
def KidsAt (ok : Nat → Prop) (W : World) (v : Value) (l : List KidS) : Prop :=
  ∃ a cap, v = .slice a l.length cap ∧ ∀ j c, l[j]? = some c → ∃ b o, a = some ⟨b, o, none⟩ ∧ ok b ∧ b < W.heap.size ∧
    W.cell? ⟨b, o + j * 2, none⟩ = some (.int .i64 c.kind) ∧ W.cell? ⟨b, o + j * 2 + 1, none⟩ = some (.int .i64 c.less)
/-- A list of kinds lies at a slice's value, in blocks that ok names. -/
def KindsAt (ok : Nat → Prop) (W : World) (v : Value) (l : List KindS) : Prop :=
  ∃ a cap, v = .slice a l.length cap ∧ ∀ j k, l[j]? = some k → ∃ b o kv, a = some ⟨b, o, none⟩ ∧ ok b ∧ b < W.heap.size ∧
    W.cell? ⟨b, o + j * 3, none⟩ = some (.int .i64 k.A) ∧ W.cell? ⟨b, o + j * 3 + 1, none⟩ = some (.int .i64 k.B) ∧ W.cell? ⟨b, o + j * 3 + 2, none⟩ = some kv ∧ KidsAt ok W kv k.kids

theorem KidsAt.kept {ok X : Nat → Prop} {W W' : World} {v : Value} {l : List KidS} (h : KidsAt ok W v l) (k : Kept X W W') (hx : ∀ b, ok b → ¬ X b) : KidsAt ok W' v l := by
  obtain ⟨a, cap, rfl, hc⟩ := h
  refine ⟨a, cap, rfl, fun j c hj => ?_⟩
  obtain ⟨b, o, ha, hok, hb, c0, c1⟩ := hc j c hj
  exact ⟨b, o, ha, hok, Nat.lt_of_lt_of_le hb k.size, (k.cell (p := ⟨b, _, none⟩) hb (hx b hok)).trans c0, (k.cell (p := ⟨b, _, none⟩) hb (hx b hok)).trans c1⟩
theorem KindsAt.kept {ok X : Nat → Prop} {W W' : World} {v : Value} {l : List KindS} (h : KindsAt ok W v l) (k : Kept X W W') (hx : ∀ b, ok b → ¬ X b) : KindsAt ok W' v l := by
  obtain ⟨a, cap, rfl, hc⟩ := h
  refine ⟨a, cap, rfl, fun j c hj => ?_⟩
  obtain ⟨b, o, kv, ha, hok, hb, c0, c1, c2, hk⟩ := hc j c hj
  exact ⟨b, o, kv, ha, hok, Nat.lt_of_lt_of_le hb k.size, (k.cell (p := ⟨b, _, none⟩) hb (hx b hok)).trans c0, (k.cell (p := ⟨b, _, none⟩) hb (hx b hok)).trans c1, (k.cell (p := ⟨b, _, none⟩) hb (hx b hok)).trans c2, hk.kept k hx⟩


theorem KidsAt.below {ok : Nat → Prop} {W : World} {v : Value} {l : List KidS} (h : KidsAt ok W v l) : KidsAt (fun b => ok b ∧ b < W.heap.size) W v l := by
  obtain ⟨a, cap, rfl, hc⟩ := h
  refine ⟨a, cap, rfl, fun j c hj => ?_⟩
  obtain ⟨b, o, ha, hok, hb, c0, c1⟩ := hc j c hj
  exact ⟨b, o, ha, ⟨hok, hb⟩, hb, c0, c1⟩
theorem KindsAt.below {ok : Nat → Prop} {W : World} {v : Value} {l : List KindS} (h : KindsAt ok W v l) : KindsAt (fun b => ok b ∧ b < W.heap.size) W v l := by
  obtain ⟨a, cap, rfl, hc⟩ := h
  refine ⟨a, cap, rfl, fun j c hj => ?_⟩
  obtain ⟨b, o, kv, ha, hok, hb, c0, c1, c2, hk⟩ := hc j c hj
  exact ⟨b, o, kv, ha, ⟨hok, hb⟩, hb, c0, c1, c2, hk.below⟩

/-- Block B holds the cells cs, none of them frozen. -/
def BoxAt (W : World) (B : Nat) (t : TypeId) (cs : Array Value) : Prop := W.heap[B]? = some (.cells cs t (0, 0))
theorem BoxAt.lt {W : World} {B : Nat} {t : TypeId} {cs : Array Value} (h : BoxAt W B t cs) : B < W.heap.size := (Array.getElem?_eq_some_iff.1 h).1
theorem BoxAt.cell {W : World} {B : Nat} {t : TypeId} {cs : Array Value} (h : BoxAt W B t cs) {o : Nat} {v : Value} (hv : cs[o]? = some v) : W.cell? ⟨B, o, none⟩ = some v := by
  simp [World.cell?, show W.heap[B]? = _ from h, hv]
theorem BoxAt.frozen {W : World} {B : Nat} {t : TypeId} {cs : Array Value} (h : BoxAt W B t cs) (o : Nat) : W.frozen? ⟨B, o, none⟩ = false := by
  simp [World.frozen?, show W.heap[B]? = _ from h]
theorem BoxAt.new (W : World) (t : TypeId) (cs : Array Value) : BoxAt (W.alloc (.cells cs t)) W.heap.size t cs := World.alloc_heap_new W _
theorem BoxAt.kept {X : Nat → Prop} {W W' : World} {B : Nat} {t : TypeId} {cs : Array Value} (h : BoxAt W B t cs) (k : Kept X W W') (hx : ¬ X B) : BoxAt W' B t cs := k.heap h hx
theorem BoxAt.below {n : Nat} {W W' : World} {B : Nat} {t : TypeId} {cs : Array Value} (h : BoxAt W B t cs) (k : Below n W W') (hx : B < n) : BoxAt W' B t cs := (k.block B hx).trans h
theorem BoxAt.alloc {W : World} {B : Nat} {t : TypeId} {cs : Array Value} (h : BoxAt W B t cs) (o : Obj) : BoxAt (W.alloc o) B t cs := (Below.heap_alloc W o B h.lt).trans h

/-- What a cell holds it holds behind the laying of a new block. -/
theorem cell_alloc {w : World} {a : Addr} {v : Value} (o : Obj) (h : w.cell? a = some v) : (w.alloc o).cell? a = some v :=
  cell_kept h (World.grownBy_alloc w o none) (fun r e => by cases e)
theorem cell_alloc3 {w : World} {a : Addr} {v : Value} (h : w.cell? a = some v) (o1 o2 o3 : Obj) : (((w.alloc o1).alloc o2).alloc o3).cell? a = some v :=
  cell_alloc o3 (cell_alloc o2 (cell_alloc o1 h))

end Go.Proofs.YtfanaanofjhlkaaDoor
