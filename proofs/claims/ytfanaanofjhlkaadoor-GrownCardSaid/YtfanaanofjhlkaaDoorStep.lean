/-
  A call of a function that turns nothing may be taken as one step of a statement whose order Go leaves open.
-/
import Derived.Test.YtfanaanofjhlkaaDoorRows2
import Derived.Deep.RegionLaw
namespace Go.Proofs.YtfanaanofjhlkaaDoor
open Go Go.RowKit

/-- A call of a function that turns nothing, as one step of a region that draws its order. -/
theorem step_call_pure {P : Program} {ops : Array Oper} {o : Oper} {a : Act} {w : World} {K : Act → World → Prop} {Q : Exit → Act → World → Prop} {E : Prop}
    (hg : o.guard = none) (f : Nat) (x y : Operand) (tys : Array TypeId) (hop : o.op = Op.call { callee := Callee.value (Operand.func f), args := #[x, y], argTypes := tys }) (v1 v2 v : Value) (hx : a.eval x = v1) (hy : a.eval y = v2)
    (he : ∀ args w, (callFunc f args).run P w = .ok (.enter f args) w) (hc : Calls P f #[v1, v2] w fun e w' => e = .returned v ∧ w = w') (hK : K (a.put o.dst v) w) :
    if Region.wanted o (yielded ops a.tmps) = true then Oper.wp P o a w K Q else E := by
  have hw : Region.wanted o (yielded ops a.tmps) = true := by simp [Region.wanted, hg]
  rw [if_pos hw]
  have hf : a.eval (Operand.func f) = .func (.func f) #[] #[] := rfl
  unfold Oper.wp execOp
  simp only [hop, resolve, invoke, hf, Sem.run_bind, List.map_toArray, List.map_cons, List.map_nil, hx, hy]
  simp [Deferred.ofValue, he, go_sem]
  refine hc.mono ?_
  rintro e w' ⟨rfl, rfl⟩
  exact hK

end Go.Proofs.YtfanaanofjhlkaaDoor
