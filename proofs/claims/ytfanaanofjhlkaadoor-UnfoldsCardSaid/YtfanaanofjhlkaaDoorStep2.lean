/-
  Two more steps of a statement whose order Go leaves open: a call by its contract; append of a list that is nil.
-/
import Derived.Test.YtfanaanofjhlkaaDoorStep
import Derived.Laws.OwnMore
namespace Go.Proofs.YtfanaanofjhlkaaDoor
open Go Go.RowKit

/-- A call of a function of two arguments, by its contract. -/
theorem step_call2 {P : Program} {ops : Array Oper} {o : Oper} {a : Act} {w : World} {K : Act → World → Prop} {Q : Exit → Act → World → Prop} {E : Prop} {R : Value → World → Prop}
    (hg : o.guard = none) (f : Nat) (x y : Operand) (tys : Array TypeId) (hop : o.op = Op.call { callee := Callee.value (Operand.func f), args := #[x, y], argTypes := tys }) (v1 v2 : Value) (hx : a.eval x = v1) (hy : a.eval y = v2)
    (he : ∀ args w, (callFunc f args).run P w = .ok (.enter f args) w) (hc : Calls P f #[v1, v2] w fun e w' => ∃ v, e = .returned v ∧ R v w') (hK : ∀ v w', R v w' → K (a.put o.dst v) w') :
    if Region.wanted o (yielded ops a.tmps) = true then Oper.wp P o a w K Q else E := by
  have hw : Region.wanted o (yielded ops a.tmps) = true := by simp [Region.wanted, hg]
  rw [if_pos hw]
  have hf : a.eval (Operand.func f) = .func (.func f) #[] #[] := rfl
  unfold Oper.wp execOp
  simp only [hop, resolve, invoke, hf, Sem.run_bind, List.map_toArray, List.map_cons, List.map_nil, hx, hy]
  simp [Deferred.ofValue, he, go_sem]
  refine hc.mono ?_
  rintro e w' ⟨v, rfl, hR⟩
  exact hK v w' hR

/-- append of a list that is nil. -/
theorem step_append_none {P : Program} {w : World} {ops : Array Oper} {o : Oper} {a : Act} {K : Act → World → Prop} {Q : Exit → Act → World → Prop} {E : Prop} (hgd : o.guard = none) (s x : Operand) (t : TypeId)
    (ho : o.op = .call { callee := .builtin .append, args := #[s, x], argTypes := #[t, t] })
    (base : Nat) (e : TypeId) (i : TypeInfo) (size : Nat) (ht : P.underlying t = some (.slice e)) (hi : P.info? e = some i)
    (v : Value) (n : Nat) (xs : List Value) (hs : a.eval s = v) (hown : w.ownsRow base e size v n xs) (hx : a.eval x = .slice none 0 0)
    (h : K (a.put o.dst v) w) : if Region.wanted o (yielded ops a.tmps) = true then Oper.wp P o a w K Q else E := by
  have hw : Region.wanted o (yielded ops a.tmps) = true := by simp [Region.wanted, hgd]
  rw [if_pos hw]
  have hrun := run_append_owned_none (P := P) (w := w) base t o.type e i size ht hi v n xs hown
  unfold Oper.wp
  simp [execOp, ho, resolve, invoke, builtin, hs, hx, hrun, Result.andThen]
  exact h
theorem row_new (W : World) (g base e size n : Nat) (cs : Array Value) (xs : List Value) (hg : W.heap.size = g) (hb : base ≤ g) (hx : cs.toList = xs) (hl : xs.length = n * size) (hn : n ≤ maxLen) : (W.alloc (.cells cs e)).ownsRow base e size (.slice (some ⟨g, 0, none⟩) n n) n xs := by
  subst hg
  subst hx
  refine ⟨hl, .inr ⟨W.heap.size, n, cs, rfl, hb, World.alloc_heap_new W _, Nat.le_refl _, hn, by simpa using hl, ?_⟩⟩
  rw [← hl, List.take_length]

theorem infoKid : (Tryd.prog.info? 46).map (fun i => (i.zero, i.size, i.bytes)) = some (some (.agg #[.int .i64 0, .int .i64 0]), 2, 16) := by kernel_rfl
theorem infoKind : (Tryd.prog.info? 49).map (fun i => (i.zero, i.size, i.bytes)) = some (some (.agg #[.int .i64 0, .int .i64 0, .slice none 0 0]), 3, 40) := by kernel_rfl

end Go.Proofs.YtfanaanofjhlkaaDoor
