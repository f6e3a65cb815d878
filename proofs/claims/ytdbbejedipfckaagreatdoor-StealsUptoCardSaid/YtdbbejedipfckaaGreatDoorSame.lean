/-
  Small facts on blocks and on kinds that many walks need.
-/
import Derived.Test.YtdbbejedipfckaaGreatDoorUnfold
import Derived.Deep.RegionLaw
import Derived.Laws.OwnMore
import Derived.Deep.DeepCutAuto
import Derived.Deep.AppendLies
import Derived.Laws.StructEq
namespace Go.Proofs.YtdbbejedipfckaaGreatDoor
open Go Go.RowKit

theorem BoxAt.drewN {W : World} {B : Nat} {t : TypeId} {cs : Array Value} (h : BoxAt W B t cs) (n : Nat) : BoxAt (W.drewN n) B t cs := h
theorem Kept.drewN {X : Nat → Prop} {A W : World} (h : Kept X A W) (n : Nat) : Kept X A (W.drewN n) := ⟨h.os, h.tape, h.output, h.size, h.block⟩

theorem cell_far {w : World} {a : Addr} {v : Value} (h : w.cell? a = some v) (p : Addr) (u : Value) (hne : a.block ≠ p.block) : (w.setCell p u).cell? a = some v :=
  (World.cell?_of_block (w := w) (Below.heap_setCell w p u a.block hne)).trans h

def pickS (c n : Int) : Int := (if c < 0 then -(c + 1) else c) % n
theorem pickS_range (c n : Int) (hn : 1 ≤ n) : 0 ≤ pickS c n ∧ pickS c n < n := ⟨Int.emod_nonneg _ (by omega), Int.emod_lt_of_pos _ (by omega)⟩

/-- What is known of the kind of a task of a program. -/
theorem kind_facts {ks : List KindS} {kind arg : Int} (hp : progB ks kind arg = true) {k : Int} (h0 : 0 ≤ k) (h1 : k < ks.length) :
    ∃ (j : Nat) (c : KindS), k = (j : Int) ∧ ks[j]? = some c ∧ kindAt ks k = c ∧ c.kids.length ≤ 3 ∧ (∀ d ∈ c.kids, 1 ≤ d.less ∧ d.less ≤ 9 ∧ 0 ≤ d.kind ∧ d.kind < ks.length) ∧ (-1000 ≤ c.A ∧ c.A ≤ 1000) ∧ (-1000 ≤ c.B ∧ c.B ≤ 1000) := by
  obtain ⟨j, rfl⟩ := Int.eq_ofNat_of_zero_le h0
  have hj : j < ks.length := by omega
  obtain ⟨c, hcc⟩ : ∃ c, ks[j]? = some c := ⟨_, List.getElem?_eq_getElem hj⟩
  have hkb : kindB ks.length c = true := by
    simp [progB] at hp
    exact hp.1.1.2 c (List.mem_of_getElem? hcc)
  refine ⟨j, c, rfl, hcc, by simp [kindAt, hcc], ?_, ?_, ?_, ?_⟩
  · simp [kindB] at hkb; exact hkb.1.2
  · intro d hd; simp [kindB, kidB, numB, rangeB] at hkb; have := hkb.2 d hd; omega
  · simp [kindB, rangeB] at hkb; omega
  · simp [kindB, rangeB] at hkb; omega

theorem BoxAt.setAt {W : World} {B : Nat} {t : TypeId} {cs : Array Value} (h : BoxAt W B t cs) (o : Nat) (v : Value) : BoxAt (W.setCell ⟨B, o, none⟩ v) B t (cs.setIfInBounds o v) := by
  obtain ⟨hlt, hk⟩ := Array.getElem?_eq_some_iff.1 h
  show (W.heap.modify B _)[B]? = _
  rw [Array.getElem?_eq_getElem (by rw [Array.size_modify]; exact hlt), Array.getElem_modify_self, hk]
  rfl
theorem BoxAt.far {W : World} {B : Nat} {t : TypeId} {cs : Array Value} (h : BoxAt W B t cs) (p : Addr) (v : Value) (hne : B ≠ p.block) : BoxAt (W.setCell p v) B t cs :=
  (Below.heap_setCell W p v B hne).trans h

end Go.Proofs.YtdbbejedipfckaaGreatDoor
/-
  Lists of kinds and of kids that a call itself has made: they lie as a program's lists do, and stay while other blocks turn.
-/
namespace Go.Proofs.YtdbbejedipfckaaGreatDoor
open Go Go.RowKit

def kidCells (l : List KidS) : List Value := l.flatMap fun d => [.int .i64 d.kind, .int .i64 d.less]
def kindCells (l : List (KindS × Value)) : List Value := l.flatMap fun p => [.int .i64 p.1.A, .int .i64 p.1.B, p.2]

theorem kidCells_get (l : List KidS) : ∀ (j : Nat) (d : KidS), l[j]? = some d → (kidCells l)[j * 2]? = some (.int .i64 d.kind) ∧ (kidCells l)[j * 2 + 1]? = some (.int .i64 d.less) := by
  induction l with
  | nil => intro j d h; simp at h
  | cons e r ih =>
    intro j d h
    unfold kidCells
    rw [List.flatMap_cons]
    cases j with
    | zero => simp at h; subst h; exact ⟨rfl, rfl⟩
    | succ j =>
      obtain ⟨h1, h2⟩ := ih j d (by simpa using h)
      rw [show (j + 1) * 2 = j * 2 + 2 from by omega]
      constructor
      · rw [List.getElem?_append_right (by simp)]
        have e : j * 2 + 2 - [Value.int .i64 e.kind, Value.int .i64 e.less].length = j * 2 := by simp
        rw [e]; exact h1
      · rw [List.getElem?_append_right (by simp)]
        have e : j * 2 + 2 + 1 - [Value.int .i64 e.kind, Value.int .i64 e.less].length = j * 2 + 1 := by simp
        rw [e]; exact h2
theorem kindCells_get (l : List (KindS × Value)) : ∀ (j : Nat) (p : KindS × Value), l[j]? = some p → (kindCells l)[j * 3]? = some (.int .i64 p.1.A) ∧ (kindCells l)[j * 3 + 1]? = some (.int .i64 p.1.B) ∧ (kindCells l)[j * 3 + 2]? = some p.2 := by
  induction l with
  | nil => intro j d h; simp at h
  | cons e r ih =>
    intro j p h
    unfold kindCells
    rw [List.flatMap_cons]
    cases j with
    | zero => simp at h; subst h; exact ⟨rfl, rfl, rfl⟩
    | succ j =>
      obtain ⟨h1, h2, h3⟩ := ih j p (by simpa using h)
      rw [show (j + 1) * 3 = j * 3 + 3 from by omega]
      refine ⟨?_, ?_, ?_⟩
      · rw [List.getElem?_append_right (by simp)]
        have e : j * 3 + 3 - [Value.int .i64 e.1.A, Value.int .i64 e.1.B, e.2].length = j * 3 := by simp
        rw [e]; exact h1
      · rw [List.getElem?_append_right (by simp)]
        have e : j * 3 + 3 + 1 - [Value.int .i64 e.1.A, Value.int .i64 e.1.B, e.2].length = j * 3 + 1 := by simp
        rw [e]; exact h2
      · rw [List.getElem?_append_right (by simp)]
        have e : j * 3 + 3 + 2 - [Value.int .i64 e.1.A, Value.int .i64 e.1.B, e.2].length = j * 3 + 2 := by simp
        rw [e]; exact h3

theorem row_slice {W : World} {base e size n : Nat} {v : Value} {xs : List Value} (h : W.ownsRow base e size v n xs) :
    ∃ a cap, v = .slice a n cap ∧ ∀ (j : Nat) (u : Value), xs[j]? = some u → ∃ g, a = some ⟨g, 0, none⟩ ∧ base ≤ g ∧ g < W.heap.size ∧ W.cell? ⟨g, j, none⟩ = some u := by
  have h1 := h.1
  rcases h.2 with ⟨rfl, h0⟩ | ⟨g, cap, cur, rfl, hg, hgb, _⟩
  · subst h0
    refine ⟨none, 0, rfl, fun k s hs => ?_⟩
    simp at h1
    subst h1
    simp at hs
  · refine ⟨_, cap, rfl, fun k s hs => ⟨g, rfl, hg, (Array.getElem?_eq_some_iff.1 hgb).1, ?_⟩⟩
    have := h.cells (g := g) rfl k s hs
    rwa [addr_add] at this

theorem kidsAt_of_row {W : World} {base : Nat} {v : Value} {l : List KidS} (h : W.ownsRow base 108 2 v l.length (kidCells l)) : KidsAt (fun b => base ≤ b) W v l := by
  obtain ⟨a, cap, rfl, hc⟩ := row_slice h
  refine ⟨a, cap, rfl, fun j c hj => ?_⟩
  obtain ⟨h0, h1⟩ := kidCells_get l j c hj
  obtain ⟨g, rfl, hg, hgl, c0⟩ := hc _ _ h0
  obtain ⟨g', e, _, _, c1⟩ := hc _ _ h1
  cases e
  exact ⟨g, 0, rfl, hg, hgl, by rw [Nat.zero_add]; exact c0, by rw [Nat.zero_add]; exact c1⟩

/-- A list of kinds in rows of the call's own. -/
def KindsRow (W : World) (base : Nat) (v : Value) (l : List (KindS × Value)) : Prop :=
  W.ownsRow base 111 3 v l.length (kindCells l) ∧ ∀ p ∈ l, W.ownsRow base 108 2 p.2 p.1.kids.length (kidCells p.1.kids)

theorem KindsRow.at {W : World} {base : Nat} {v : Value} {l : List (KindS × Value)} (h : KindsRow W base v l) : KindsAt (fun b => base ≤ b) W v (l.map Prod.fst) := by
  obtain ⟨a, cap, rfl, hc⟩ := row_slice h.1
  refine ⟨a, cap, by simp, fun j k hj => ?_⟩
  rw [List.getElem?_map] at hj
  obtain ⟨p, hp, rfl⟩ := Option.map_eq_some_iff.1 hj
  obtain ⟨h0, h1, h2⟩ := kindCells_get l j p hp
  obtain ⟨g, rfl, hg, hgl, c0⟩ := hc _ _ h0
  obtain ⟨g', e, _, _, c1⟩ := hc _ _ h1
  cases e
  obtain ⟨g', e, _, _, c2⟩ := hc _ _ h2
  cases e
  exact ⟨g, 0, p.2, rfl, hg, hgl, by rw [Nat.zero_add]; exact c0, by rw [Nat.zero_add]; exact c1, by rw [Nat.zero_add]; exact c2, kidsAt_of_row (h.2 p (List.mem_of_getElem? hp))⟩

/-- A row is no block of another element type. -/
theorem row_ne {W : World} {base e t size n B : Nat} {v : Value} {xs : List Value} {cs : Array Value} {fr : Nat × Nat} (h : W.ownsRow base e size v n xs) (hB : W.heap[B]? = some (.cells cs t fr)) (hte : t ≠ e) : v.ownBlock ≠ some B := by
  rcases h.2 with ⟨rfl, _⟩ | ⟨g, cap, cur, rfl, _, hgb, _⟩
  · simp [Value.ownBlock]
  · intro e'
    obtain rfl : g = B := by simpa [Value.ownBlock] using e'
    rw [hB] at hgb
    simp at hgb
    exact hte hgb.2.1
theorem row_obj {W : World} {base e size n g : Nat} {v : Value} {xs : List Value} (h : W.ownsRow base e size v n xs) (hg : v.ownBlock = some g) : ∃ cs, W.heap[g]? = some (.cells cs e (0, 0)) := by
  rcases h.2 with ⟨rfl, _⟩ | ⟨g', cap, cur, rfl, _, hgb, _⟩
  · simp [Value.ownBlock] at hg
  · obtain rfl : g' = g := by simpa [Value.ownBlock] using hg
    exact ⟨cur, hgb⟩

theorem KindsRow.kept {X : Nat → Prop} {W W' : World} {base : Nat} {v : Value} {l : List (KindS × Value)} (h : KindsRow W base v l) (k : Kept X W W')
    (hX : ∀ b, X b → b < W.heap.size → ∃ cs t fr, W.heap[b]? = some (.cells cs t fr) ∧ t ≠ 111 ∧ t ≠ 108) : KindsRow W' base v l := by
  refine ⟨row_kept h.1 k (fun g hg hx => ?_) (Nat.le_refl _), fun p hp => row_kept (h.2 p hp) k (fun g hg hx => ?_) (Nat.le_refl _)⟩
  · obtain ⟨cs, hcs⟩ := row_obj h.1 hg
    obtain ⟨cs', t, fr, hcs', h1, _⟩ := hX g hx (Array.getElem?_eq_some_iff.1 hcs).1
    exact row_ne h.1 hcs' h1 hg
  · obtain ⟨cs, hcs⟩ := row_obj (h.2 p hp) hg
    obtain ⟨cs', t, fr, hcs', _, h2⟩ := hX g hx (Array.getElem?_eq_some_iff.1 hcs).1
    exact row_ne (h.2 p hp) hcs' h2 hg
theorem KindsRow.below {W W' : World} {base : Nat} {v : Value} {l : List (KindS × Value)} (h : KindsRow W base v l) (k : Below W.heap.size W W') : KindsRow W' base v l :=
  h.kept (X := fun b => W.heap.size ≤ b) (Kept.of_below k (fun _ _ h => h)) (fun _ h1 h2 => absurd h2 (Nat.not_lt_of_le h1))
end Go.Proofs.YtdbbejedipfckaaGreatDoor
/-
  A call of a function that turns nothing may be taken as one step of a statement whose order Go leaves open.
-/
namespace Go.Proofs.YtdbbejedipfckaaGreatDoor
open Go Go.RowKit

/-- A call of a function that turns nothing, as one step of a region that draws its order. -/
theorem step_call_pure {P : Program} {ops : Array Oper} {o : Oper} {a : Act} {w : World} {K : Act → World → Prop} {Q : Exit → Act → World → Prop} {E : Prop}
    (hg : o.guard = none) (f : Nat) (x y : Operand) (tys : Array TypeId) (hop : o.op = Op.call { callee := Callee.value (Operand.func f), args := #[x, y], argTypes := tys }) (v1 v2 v : Value) (hx : a.eval x = v1) (hy : a.eval y = v2)
    (he : ∀ args w, (callFunc f args).run P w = .ok (.enter f args) w) (hc : Calls P f #[v1, v2] w fun e w' => e = .returned v ∧ w = w') (hK : K (a.put o.dst v) w) :
    if Region.wanted o (yielded ops a.tmps) = true then Oper.wp P o a w K Q else E := by
  have hw : Region.wanted o (yielded ops a.tmps) = true := by simp [Region.wanted, hg]
  rw [if_pos hw]
  have hf : a.eval (Operand.func f) = .func (.func f) #[] #[] := rfl
  unfold Oper.wp execOp
  simp only [hop, resolve, invoke, hf, Sem.run_bind, List.map_toArray, List.map_cons, List.map_nil, hx, hy]
  simp [Deferred.ofValue, he, go_sem]
  refine hc.mono ?_
  rintro e w' ⟨rfl, rfl⟩
  exact hK

end Go.Proofs.YtdbbejedipfckaaGreatDoor
/-
  Unfold of the document's example: its four values; and of whatever program, with what its list holds said cell by cell.
-/
namespace Go.Proofs.YtdbbejedipfckaaGreatDoor
open Go Go.RowKit

/-- A list of tasks' values lies at a slice. -/
def ValsAt (ok : Nat → Prop) (W : World) (a : Option Addr) (ks : List KindS) (l : List TaskS) : Prop :=
  ∀ j t, l[j]? = some t → ∃ g, a = some ⟨g, 0, none⟩ ∧ ok g ∧ g < W.heap.size ∧ W.cell? ⟨g, j * 2, none⟩ = some (.string t.id) ∧ W.cell? ⟨g, j * 2 + 1, none⟩ = some (.int .i64 (valueOf ks t))

theorem taskCells_get (ks : List KindS) (l : List TaskS) : ∀ (j : Nat) (t : TaskS), l[j]? = some t → (taskCells ks l)[j * 2]? = some (.string t.id) ∧ (taskCells ks l)[j * 2 + 1]? = some (.int .i64 (valueOf ks t)) := by
  induction l with
  | nil => intro j d h; simp at h
  | cons e r ih =>
    intro j d h
    unfold taskCells
    rw [List.flatMap_cons]
    cases j with
    | zero => simp at h; subst h; exact ⟨rfl, rfl⟩
    | succ j =>
      obtain ⟨h1, h2⟩ := ih j d (by simpa using h)
      rw [show (j + 1) * 2 = j * 2 + 2 from by omega]
      constructor
      · rw [List.getElem?_append_right (by simp)]
        have e : j * 2 + 2 - [Value.string e.id, Value.int .i64 (valueOf ks e)].length = j * 2 := by simp
        rw [e]; exact h1
      · rw [List.getElem?_append_right (by simp)]
        have e : j * 2 + 2 + 1 - [Value.string e.id, Value.int .i64 (valueOf ks e)].length = j * 2 + 1 := by simp
        rw [e]; exact h2

theorem valsAt_of_row {W : World} {base : Nat} {v : Value} {ks : List KindS} {l : List TaskS} (h : W.ownsRow base 84 2 v l.length (taskCells ks l)) : ∃ a cap, v = .slice a l.length cap ∧ ValsAt (fun b => base ≤ b) W a ks l := by
  obtain ⟨a, cap, rfl, hc⟩ := row_slice h
  refine ⟨a, cap, rfl, fun j t hj => ?_⟩
  obtain ⟨h0, h1⟩ := taskCells_get ks l j t hj
  obtain ⟨g, rfl, hg, hgl, c0⟩ := hc _ _ h0
  obtain ⟨g', e, _, _, c1⟩ := hc _ _ h1
  cases e
  exact ⟨g, rfl, hg, hgl, c0, c1⟩
theorem ValsAt.kept {ok X : Nat → Prop} {W W' : World} {a : Option Addr} {ks : List KindS} {l : List TaskS} (h : ValsAt ok W a ks l) (k : Kept X W W') (hx : ∀ b, ok b → b < W.heap.size → ¬ X b) : ValsAt ok W' a ks l := by
  intro j t hj
  obtain ⟨g, ha, hok, hg, c0, c1⟩ := h j t hj
  exact ⟨g, ha, hok, Nat.lt_of_lt_of_le hg k.size, (k.cell (p := ⟨g, _, none⟩) hg (hx g hok hg)).trans c0, (k.cell (p := ⟨g, _, none⟩) hg (hx g hok hg)).trans c1⟩

theorem unfold_at (a : Option Addr) (cap : Nat) (kind arg : Int) (ks : List KindS) (w : World) (ok : Nat → Prop) (hk : KindsAt ok w (.slice a ks.length cap) ks) (hl : ks.length ≤ 9223372036854775806) (hl2 : ∀ k ∈ ks, k.kids.length ≤ 9223372036854775806) :
    Calls Tryz.prog 25 #[.agg #[.slice a ks.length cap, .int .i64 kind, .int .i64 arg]] w fun e w' => ∃ a' cap', e = .returned (.tuple #[.slice a' (unfoldS ks kind arg).2.length cap', .int .i64 (unfoldS ks kind arg).1]) ∧
      ValsAt (fun b => w.heap.size ≤ b) w' a' ks (unfoldS ks kind arg).2 ∧ Below w.heap.size w w' := by
  have hk' : KindsAt (fun _ => True) w (.slice a ks.length cap) ks := by
    obtain ⟨a', cap', hs, hc⟩ := hk
    refine ⟨a', cap', hs, fun j k hj => ?_⟩
    obtain ⟨b, o, kv, h1, _, h2, h3, h4, h5, a2, cap2, hs2, hc2⟩ := hc j k hj
    refine ⟨b, o, kv, h1, trivial, h2, h3, h4, h5, a2, cap2, hs2, fun j' c hj' => ?_⟩
    obtain ⟨b', o', g1, _, g2⟩ := hc2 j' c hj'
    exact ⟨b', o', g1, trivial, g2⟩
  refine (unfold_calls a cap kind arg ks w hk' hl hl2).mono ?_
  rintro e w' ⟨v, rfl, hrow, hb⟩
  obtain ⟨a', cap', rfl, hv⟩ := valsAt_of_row hrow
  exact ⟨a', cap', rfl, hv, hb⟩

/-- The document's program. -/
def exKs : List KindS := [⟨2, 1, [⟨0, 1⟩, ⟨0, 2⟩]⟩]
def exTasks : List TaskS := [⟨⟨#[]⟩, 0, 2⟩, ⟨⟨#[48]⟩, 0, 1⟩, ⟨⟨#[48, 48]⟩, 0, 0⟩, ⟨⟨#[49]⟩, 0, 0⟩]
theorem ex_unfold : unfoldS exKs 0 2 = (0, exTasks) := by kernel_rfl
theorem ex_values : exTasks.map (valueOf exKs) = [5, 3, 1, 1] := by kernel_rfl

theorem unfold_example (w : World) (B C : Nat) (hB : BoxAt w B 108 #[.int .i64 0, .int .i64 1, .int .i64 0, .int .i64 2]) (hC : BoxAt w C 111 #[.int .i64 2, .int .i64 1, .slice (some ⟨B, 0, none⟩) 2 2]) :
    Calls Tryz.prog 25 #[.agg #[.slice (some ⟨C, 0, none⟩) 1 1, .int .i64 0, .int .i64 2]] w fun e w' => ∃ g cap', e = .returned (.tuple #[.slice (some ⟨g, 0, none⟩) 4 cap', .int .i64 0]) ∧ w.heap.size ≤ g ∧ g < w'.heap.size ∧
      w'.cell? ⟨g, 0, none⟩ = some (.string ⟨#[]⟩) ∧ w'.cell? ⟨g, 1, none⟩ = some (.int .i64 5) ∧ w'.cell? ⟨g, 2, none⟩ = some (.string ⟨#[48]⟩) ∧ w'.cell? ⟨g, 3, none⟩ = some (.int .i64 3) ∧
      w'.cell? ⟨g, 4, none⟩ = some (.string ⟨#[48, 48]⟩) ∧ w'.cell? ⟨g, 5, none⟩ = some (.int .i64 1) ∧ w'.cell? ⟨g, 6, none⟩ = some (.string ⟨#[49]⟩) ∧ w'.cell? ⟨g, 7, none⟩ = some (.int .i64 1) ∧ Below w.heap.size w w' := by
  have hk : KindsAt (fun _ => True) w (.slice (some ⟨C, 0, none⟩) exKs.length 1) exKs := by
    refine ⟨_, 1, rfl, fun j k hj => ?_⟩
    have hj0 : j = 0 := by
      rcases Nat.lt_or_ge j 1 with h | h
      · omega
      · rw [List.getElem?_eq_none (by simpa [exKs] using h)] at hj; cases hj
    subst hj0
    simp only [exKs, List.getElem?_cons_zero, Option.some.injEq] at hj
    subst hj
    refine ⟨C, 0, .slice (some ⟨B, 0, none⟩) 2 2, rfl, trivial, hC.lt, hC.cell rfl, hC.cell rfl, hC.cell rfl, some ⟨B, 0, none⟩, 2, rfl, fun i c hi => ?_⟩
    match i, hi with
    | 0, hi => simp only [List.getElem?_cons_zero, Option.some.injEq] at hi; subst hi; exact ⟨B, 0, rfl, trivial, hB.lt, hB.cell rfl, hB.cell rfl⟩
    | 1, hi => simp only [List.getElem?_cons_succ, List.getElem?_cons_zero, Option.some.injEq] at hi; subst hi; exact ⟨B, 0, rfl, trivial, hB.lt, hB.cell rfl, hB.cell rfl⟩
    | i + 2, hi => simp at hi
  refine (unfold_at (some ⟨C, 0, none⟩) 1 0 2 exKs w _ hk (by simp [exKs]) (by intro k hk'; simp [exKs] at hk'; subst hk'; simp)).mono ?_
  rintro e w' ⟨a', cap', rfl, hv, hb⟩
  rw [ex_unfold] at hv ⊢
  have hval : ∀ (j : Nat) (t : TaskS) (v : Int), exTasks[j]? = some t → [(5 : Int), 3, 1, 1][j]? = some v → valueOf exKs t = v := fun j t v h1 h2 => by
    have := congrArg (fun l : List Int => l[j]?) ex_values
    simp only [List.getElem?_map, h1, h2] at this
    simpa using this
  obtain ⟨g, rfl, hg, hgl, c0, c1⟩ := hv 0 _ rfl
  obtain ⟨g1, e1, _, _, c2, c3⟩ := hv 1 _ rfl
  obtain ⟨g2, e2, _, _, c4, c5⟩ := hv 2 _ rfl
  obtain ⟨g3, e3, _, _, c6, c7⟩ := hv 3 _ rfl
  cases e1; cases e2; cases e3
  rw [hval 0 _ 5 rfl rfl] at c1
  rw [hval 1 _ 3 rfl rfl] at c3
  rw [hval 2 _ 1 rfl rfl] at c5
  rw [hval 3 _ 1 rfl rfl] at c7
  exact ⟨g, cap', rfl, hg, hgl, c0, c1, c2, c3, c4, c5, c6, c7, hb⟩
end Go.Proofs.YtdbbejedipfckaaGreatDoor
/-
  Two more steps of a statement whose order Go leaves open: a call by its contract; append of a list that is nil.
-/
namespace Go.Proofs.YtdbbejedipfckaaGreatDoor
open Go Go.RowKit

/-- A call of a function of two arguments, by its contract. -/
theorem step_call2 {P : Program} {ops : Array Oper} {o : Oper} {a : Act} {w : World} {K : Act → World → Prop} {Q : Exit → Act → World → Prop} {E : Prop} {R : Value → World → Prop}
    (hg : o.guard = none) (f : Nat) (x y : Operand) (tys : Array TypeId) (hop : o.op = Op.call { callee := Callee.value (Operand.func f), args := #[x, y], argTypes := tys }) (v1 v2 : Value) (hx : a.eval x = v1) (hy : a.eval y = v2)
    (he : ∀ args w, (callFunc f args).run P w = .ok (.enter f args) w) (hc : Calls P f #[v1, v2] w fun e w' => ∃ v, e = .returned v ∧ R v w') (hK : ∀ v w', R v w' → K (a.put o.dst v) w') :
    if Region.wanted o (yielded ops a.tmps) = true then Oper.wp P o a w K Q else E := by
  have hw : Region.wanted o (yielded ops a.tmps) = true := by simp [Region.wanted, hg]
  rw [if_pos hw]
  have hf : a.eval (Operand.func f) = .func (.func f) #[] #[] := rfl
  unfold Oper.wp execOp
  simp only [hop, resolve, invoke, hf, Sem.run_bind, List.map_toArray, List.map_cons, List.map_nil, hx, hy]
  simp [Deferred.ofValue, he, go_sem]
  refine hc.mono ?_
  rintro e w' ⟨v, rfl, hR⟩
  exact hK v w' hR

/-- append of a list that is nil. -/
theorem step_append_none {P : Program} {w : World} {ops : Array Oper} {o : Oper} {a : Act} {K : Act → World → Prop} {Q : Exit → Act → World → Prop} {E : Prop} (hgd : o.guard = none) (s x : Operand) (t : TypeId)
    (ho : o.op = .call { callee := .builtin .append, args := #[s, x], argTypes := #[t, t] })
    (base : Nat) (e : TypeId) (i : TypeInfo) (size : Nat) (ht : P.underlying t = some (.slice e)) (hi : P.info? e = some i)
    (v : Value) (n : Nat) (xs : List Value) (hs : a.eval s = v) (hown : w.ownsRow base e size v n xs) (hx : a.eval x = .slice none 0 0)
    (h : K (a.put o.dst v) w) : if Region.wanted o (yielded ops a.tmps) = true then Oper.wp P o a w K Q else E := by
  have hw : Region.wanted o (yielded ops a.tmps) = true := by simp [Region.wanted, hgd]
  rw [if_pos hw]
  have hrun := run_append_owned_none (P := P) (w := w) base t o.type e i size ht hi v n xs hown
  unfold Oper.wp
  simp [execOp, ho, resolve, invoke, builtin, hs, hx, hrun, Result.andThen]
  exact h
theorem row_new (W : World) (g base e size n : Nat) (cs : Array Value) (xs : List Value) (hg : W.heap.size = g) (hb : base ≤ g) (hx : cs.toList = xs) (hl : xs.length = n * size) (hn : n ≤ maxLen) : (W.alloc (.cells cs e)).ownsRow base e size (.slice (some ⟨g, 0, none⟩) n n) n xs := by
  subst hg
  subst hx
  refine ⟨hl, .inr ⟨W.heap.size, n, cs, rfl, hb, World.alloc_heap_new W _, Nat.le_refl _, hn, by simpa using hl, ?_⟩⟩
  rw [← hl, List.take_length]

theorem infoKid : (Tryz.prog.info? 108).map (fun i => (i.zero, i.size, i.bytes)) = some (some (.agg #[.int .i64 0, .int .i64 0]), 2, 16) := by kernel_rfl
theorem infoKind : (Tryz.prog.info? 111).map (fun i => (i.zero, i.size, i.bytes)) = some (some (.agg #[.int .i64 0, .int .i64 0, .slice none 0 0]), 3, 40) := by kernel_rfl

end Go.Proofs.YtdbbejedipfckaaGreatDoor
/-
  Lists of values that lie in memory, and gleanlaw.sameV: two lists that hold the same it calls the same.
-/
namespace Go.Proofs.YtdbbejedipfckaaGreatDoor
open Go Go.RowKit

/-- A list of values lies at a slice's value. -/
def PairsAt (W : World) (v : Value) (l : List (ByteArray × Int)) : Prop :=
  ∃ a cap, v = .slice a l.length cap ∧ ∀ j x, l[j]? = some x → ∃ g o, a = some ⟨g, o, none⟩ ∧ g < W.heap.size ∧ W.cell? ⟨g, o + j * 2, none⟩ = some (.string x.1) ∧ W.cell? ⟨g, o + j * 2 + 1, none⟩ = some (.int .i64 x.2)
def pairCells (l : List (ByteArray × Int)) : List Value := l.flatMap fun x => [.string x.1, .int .i64 x.2]
def pairsOf (ks : List KindS) (l : List TaskS) : List (ByteArray × Int) := l.map fun t => (t.id, valueOf ks t)
theorem taskCells_pairs (ks : List KindS) (l : List TaskS) : taskCells ks l = pairCells (pairsOf ks l) := by
  simp [taskCells, pairCells, pairsOf, List.flatMap_map]
theorem pairsOf_length (ks : List KindS) (l : List TaskS) : (pairsOf ks l).length = l.length := by simp [pairsOf]

theorem pairCells_get (l : List (ByteArray × Int)) : ∀ (j : Nat) (x : ByteArray × Int), l[j]? = some x → (pairCells l)[j * 2]? = some (.string x.1) ∧ (pairCells l)[j * 2 + 1]? = some (.int .i64 x.2) := by
  induction l with
  | nil => intro j d h; simp at h
  | cons e r ih =>
    intro j d h
    unfold pairCells
    rw [List.flatMap_cons]
    cases j with
    | zero => simp at h; subst h; exact ⟨rfl, rfl⟩
    | succ j =>
      obtain ⟨h1, h2⟩ := ih j d (by simpa using h)
      rw [show (j + 1) * 2 = j * 2 + 2 from by omega]
      constructor
      · rw [List.getElem?_append_right (by simp)]
        have e : j * 2 + 2 - [Value.string e.1, Value.int .i64 e.2].length = j * 2 := by simp
        rw [e]; exact h1
      · rw [List.getElem?_append_right (by simp)]
        have e : j * 2 + 2 + 1 - [Value.string e.1, Value.int .i64 e.2].length = j * 2 + 1 := by simp
        rw [e]; exact h2
theorem pairCells_length (l : List (ByteArray × Int)) : (pairCells l).length = l.length * 2 := by
  induction l with
  | nil => rfl
  | cons x r ih => unfold pairCells at ih ⊢; simp [ih]; omega
theorem pairs_of_row {W : World} {base n : Nat} {v : Value} {l : List (ByteArray × Int)} (h : W.ownsRow base 84 2 v n (pairCells l)) : n = l.length ∧ PairsAt W v l := by
  have hn : n = l.length := by
    have := h.1
    rw [pairCells_length] at this
    omega
  subst hn
  obtain ⟨a, cap, rfl, hc⟩ := row_slice h
  refine ⟨rfl, a, cap, rfl, fun j x hj => ?_⟩
  obtain ⟨h0, h1⟩ := pairCells_get l j x hj
  obtain ⟨g, rfl, hg, hgl, c0⟩ := hc _ _ h0
  obtain ⟨g', e, _, _, c1⟩ := hc _ _ h1
  cases e
  exact ⟨g, 0, rfl, hgl, by rw [Nat.zero_add]; exact c0, by rw [Nat.zero_add]; exact c1⟩
theorem PairsAt.below {n : Nat} {W W' : World} {v : Value} {l : List (ByteArray × Int)} (h : PairsAt W v l) (hb : Below n W W') (hn : W.heap.size ≤ n) : PairsAt W' v l := by
  obtain ⟨a, cap, rfl, hc⟩ := h
  refine ⟨a, cap, rfl, fun j x hj => ?_⟩
  obtain ⟨g, o, ha, hg, c0, c1⟩ := hc j x hj
  exact ⟨g, o, ha, Nat.lt_of_lt_of_le hg hb.size, (hb.cell (p := ⟨g, _, none⟩) (Nat.lt_of_lt_of_le hg hn)).trans c0, (hb.cell (p := ⟨g, _, none⟩) (Nat.lt_of_lt_of_le hg hn)).trans c1⟩
theorem pairs_nil (W : World) : PairsAt W (.slice none 0 0) [] := ⟨none, 0, rfl, fun j x h => by simp at h⟩

theorem valueHeld : Tryz.prog.stoodInHeld 84 = false := by kernel_rfl
theorem valueGuard : Tryz.prog.eqGuardType Tryz.prog.depth 84 = false := by kernel_rfl

set_option maxHeartbeats 1000000 in
theorem sameV_calls (va vb : Value) (l : List (ByteArray × Int)) (w : World) (ha : PairsAt w va l) (hb : PairsAt w vb l) (hl : l.length ≤ 9223372036854775806) :
    Calls Tryz.prog 45 #[va, vb] w fun e w' => e = .returned (.bool true) ∧ Below w.heap.size w w' := by
  obtain ⟨a, cap, rfl, hca⟩ := ha
  obtain ⟨b, cap', rfl, hcb⟩ := hb
  have hs := valueHeld
  have hg := valueGuard
  go_enter Tryz.func45, Tryz.ntmps45
  go_wp2_with fail
  go_loopw [5] (fun i wr => ∃ k : Nat, k ≤ l.length ∧ i = .int .i64 k ∧ Below w.heap.size w wr) (fun i _ => l.length - (intOf i).toNat)
  case atStart => exact ⟨0, Nat.zero_le _, rfl, Below.refl _ _⟩
  case round =>
    obtain ⟨k, hk, rfl, hbw⟩ := hrel
    by_cases hlt : k < l.length
    · obtain ⟨x, hx⟩ : ∃ x, l[k]? = some x := ⟨_, List.getElem?_eq_getElem hlt⟩
      obtain ⟨g, o, rfl, hgl, c0, c1⟩ := hca k x hx
      obtain ⟨g', o', rfl, hgl', c2, c3⟩ := hcb k x hx
      have d0 := (hbw.cell (p := ⟨g, o + k * 2, none⟩) hgl).trans c0
      have d1 := (hbw.cell (p := ⟨g, o + k * 2 + 1, none⟩) hgl).trans c1
      have d2 := (hbw.cell (p := ⟨g', o' + k * 2, none⟩) hgl').trans c2
      have d3 := (hbw.cell (p := ⟨g', o' + k * 2 + 1, none⟩) hgl').trans c3
      have i1 : (0 : Int) ≤ (k : Int) := by omega
      have i2 : (k : Int) < (l.length : Int) := by omega
      clear hca hcb c0 c1 c2 c3
      go_wp2_with fail
      go_quiet (fail)
      go_wp2_with fail
      go_roundw
      case rel => exact ⟨k + 1, by omega, by go_num, below_drewN hbw _⟩
      case measure => simp [intOf]; omega
    · go_wp2_with fail
      go_ret
      exact ⟨rfl, hbw⟩
end Go.Proofs.YtdbbejedipfckaaGreatDoor
