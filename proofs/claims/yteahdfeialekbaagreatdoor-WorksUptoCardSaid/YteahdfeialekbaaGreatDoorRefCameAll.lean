/-
  gleanref's Run.Check, the document's own answer.
-/
import Derived.Test.YteahdfeialekbaaGreatDoorRefCheck
import Derived.Test.YteahdfeialekbaaGreatDoorLinkOn
namespace Go.Proofs.YteahdfeialekbaaGreatDoor
open Go Go.RowKit
structure CameReady (s : RunS) (m : MsgS) : Prop where
 shape : Shaped s
 small : ∃ N, N <= 90000000 /\ Small N s
 src : 0 <= m.src /\ m.src < s.workers
 dst : 0 <= m.dst /\ m.dst < s.workers
 few : ∀ x ∈ s.W, x.tasks.length <= 1000000
 vals : s.values.length <= 900000
 kind : 1 <= m.kind /\ m.kind <= 7
 told : m.kind = 7 -> ∃ L a, s.answers = L ++ [a] /\ L.length <= 100000000 /\ (-1000000000000000 <= a.many /\ a.many <= 1000000000000000) /\ (-1000000000000000000 <= a.sent + m.sent /\ a.sent + m.sent <= 1000000000000000000) /\ (-1000000000000000000 <= a.came + m.came /\ a.came + m.came <= 1000000000000000000)
theorem ref_came_all (m : MsgS) {part : Nat -> Nat} {w : World} {B : Nat} {s : RunS} {kv wv lv yv vv av : Value} {ps : List Nat} {rows : List (Value × List Nat)} (h : RefAtO part w B s kv wv lv yv vv av ps rows) (hr : CameReady s m) :
  Calls Tryz.prog 101 #[.pointer (some ⟨B, 0, none⟩), .agg (msgCells m)] w fun e w' => e = .returned (.tuple #[]) /\ ∃ part' yv' vv' av', RefAtO part' w' B (cameS s m) kv wv lv yv' vv' av' ps rows /\ Moved part part' w w' := by
 obtain ⟨N, hN', hN⟩ := hr.small
 have hk := hr.kind
 by_cases h1 : m.kind = 1
 ·obtain ⟨i, x, hi, hx, -⟩ := hr.shape.worker hr.dst.1 hr.dst.2
  have hx' : s.W[m.dst.toNat]? = some x := by rw [hi]; simpa using hx
  cases ht : x.tasks with
  | nil => exact ref_came_asks0 m h hr.shape hN hN' hr.src hr.dst (fun y hy => by rw [hx'] at hy; cases hy; exact ht) h1
  | cons t r => exact ref_came_asks1 m h hr.shape hN hN' hr.src hr.dst hr.few t r (fun y hy => by rw [hx'] at hy; cases hy; exact ht) h1
 by_cases h2 : m.kind = 2
 ·exact ref_came_grant m h hr.shape hN hN' hr.dst hr.few h2
 by_cases h3 : m.kind = 3
 ·exact ref_came_deny m h hr.shape hr.dst h3
 by_cases h4 : m.kind = 4
 ·exact ref_came_result m h hr.shape hN hN' hr.dst hr.vals h4
 by_cases h5 : m.kind = 5
 ·exact ref_came_token m h hr.shape hr.dst h5
 by_cases h6 : m.kind = 6
 ·exact ref_came_wave m h hr.shape hN hN' hr.dst h6
 ·obtain ⟨L, a, ha, hL, g1, g2, g3⟩ := hr.told (by omega)
  exact ref_came_report m h hr.shape hr.dst L a ha hL g1 g2 g3 (by omega)
def linkOf (s : RunS) (i j : Nat) : LinkS := (s.links[i]?.getD [])[j]?.getD link0
def setLink (s : RunS) (i j : Nat) (l : LinkS) : RunS := { s with links := s.links.set i ((s.links[i]?.getD []).set j l) }
def stepS (s : RunS) (i j : Nat) : RunS := cameS (setLink s i j { linkOf s i j with came := (linkOf s i j).came + 1 }) ((linkOf s i j).all[(linkOf s i j).came.toNat]?.getD msg0)
def comeS : Nat -> RunS -> Nat -> Nat -> RunS
 | 0, s, _, _ => s
 | f + 1, s, i, j => if nextB (linkOf s i j) = true then comeS f (stepS s i j) i j else s
structure LinkFine (s : RunS) (i j : Nat) : Prop where
 shape : Shaped s
 few : (linkOf s i j).kept.length <= 1000000000
 came : 0 <= (linkOf s i j).came /\ (linkOf s i j).came <= 1000000000000
def ComeOK : Nat -> RunS -> Nat -> Nat -> Prop
 | 0, s, i, j => LinkFine s i j /\ nextB (linkOf s i j) = false
 | f + 1, s, i, j => LinkFine s i j /\ (nextB (linkOf s i j) = true -> (linkOf s i j).came < ((linkOf s i j).all.length : Int) /\ CameReady (setLink s i j { linkOf s i j with came := (linkOf s i j).came + 1 }) ((linkOf s i j).all[(linkOf s i j).came.toNat]?.getD msg0) /\ ComeOK f (stepS s i j) i j)
def keepS (l : LinkS) (n : Int) : LinkS := if l.came < n /\ n <= l.came + 4 /\ l.kept.any (· == n) = false then { l with kept := l.kept ++ [n] } else l
def deliverS (s : RunS) (k : Int) : RunS × Int :=
 if messageE s k ≠ 0 then (s, messageE s k) else
  let m := s.way[k.toNat]?.getD msg0
  let s1 := { s with way := s.way.take k.toNat ++ s.way.drop (k.toNat + 1) }
  if m.kind = 0 then
   (if (linkOf s1 m.dst.toNat m.src.toNat).known < m.no then setLink s1 m.dst.toNat m.src.toNat { linkOf s1 m.dst.toNat m.src.toNat with known := m.no } else s1, 0)
  else
   let i := m.src.toNat
   let j := m.dst.toNat
   let s2 := setLink s1 i j (keepS (linkOf s1 i j) m.no)
   let s3 := comeS ((linkOf s1 i j).all.length + 1) s2 i j
   (wayS s3 { msg0 with src := m.dst, dst := m.src, kind := 0, no := (linkOf s3 i j).came }, 0)
end Go.Proofs.YteahdfeialekbaaGreatDoor
