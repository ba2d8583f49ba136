/- A call of a Go function by its contract, as one step of a region that draws. -/
import Derived.Test.YtbheabjemaaeoabHome
import Derived.Deep.RegionLaw
namespace Go.Proofs.Ytbheabjemaaeoab
open Go.RowKit Go.Lib Fx Ho
set_option linter.unusedVariables false
namespace Ho
theorem step_c {P : Program} {ops : Array Oper} {o : Oper} {a : Act} {w : World} {K : Act → World → Prop} {Q : Exit → Act → World → Prop} {E : Prop} (hgd : Region.wanted o (yielded ops a.tmps) = true) (f : Nat) (xs : Array Operand) {ts : Array TypeId} (ho : o.op = .call { callee := .value (.func f), args := xs, argTypes := ts }) (args : Array Value) (ha : xs.map a.eval = args) (hcf : (callFunc f args).run P w = .ok (.enter f args) w) {post : Ending → World → Prop}
    (hc : Calls P f args w post) (hK : ∀ e w', post e w' → ∃ v, e = .returned v ∧ K (a.put o.dst v) w') : if Region.wanted o (yielded ops a.tmps) = true then Oper.wp P o a w K Q else E := by
  subst ha
  rw [if_pos hgd]
  unfold Oper.wp
  have hrun : (execOp a.eval o).run P w = .ok (.enter f (xs.map a.eval)) w := by
    simp [execOp, ho, resolve, invoke, Act.eval, Deferred.ofValue, hcf]
  rw [hrun, Oper.upon_enter]
  refine hc.mono fun e w'' hh => ?_
  obtain ⟨v, rfl, h⟩ := hK _ _ hh
  exact h
theorem step_c1 {P : Program} {ops : Array Oper} {o : Oper} {a : Act} {w : World} {K : Act → World → Prop} {Q : Exit → Act → World → Prop} {E : Prop} (hgd : Region.wanted o (yielded ops a.tmps) = true) (f : Nat) (x1 : Operand) {ts : Array TypeId} (ho : o.op = .call { callee := .value (.func f), args := #[x1], argTypes := ts }) (v1 : Value) (ha1 : a.eval x1 = v1) (hcf : (callFunc f #[v1]).run P w = .ok (.enter f #[v1]) w) {post : Ending → World → Prop}
    (hc : Calls P f #[v1] w post) (hK : ∀ e w', post e w' → ∃ v, e = .returned v ∧ K (a.put o.dst v) w') : if Region.wanted o (yielded ops a.tmps) = true then Oper.wp P o a w K Q else E :=
  step_c hgd f #[x1] ho #[v1] (by simp [ha1]) hcf hc hK
end Ho
end Go.Proofs.Ytbheabjemaaeoab
