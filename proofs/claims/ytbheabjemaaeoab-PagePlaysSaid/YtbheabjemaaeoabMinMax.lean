/- The greater and the lesser of two numbers, told by a name: laid ahead of a walk they keep it from parting. -/
import Derived.Test.YtbheabjemaaeoabKit
namespace Go.Proofs.Ytbheabjemaaeoab
open Go.RowKit Go.Lib Fx
set_option linter.unusedVariables false
theorem run_max2 {P : Program} {x y m : Int} (h : max x y = m) : ∀ (ts : Array TypeId) (t : TypeId) (w : World), (Builtin.max_ ts t #[.int .i64 x, .int .i64 y]).run P w = .ok (.int .i64 m) w := by
  intro ts t w
  have : (if y > x then y else x) = m := by split <;> omega
  rw [run_max_int2, this]
theorem run_min2 {P : Program} {x y m : Int} (h : min x y = m) : ∀ (ts : Array TypeId) (t : TypeId) (w : World), (Builtin.min_ ts t #[.int .i64 x, .int .i64 y]).run P w = .ok (.int .i64 m) w := by
  intro ts t w
  have : (if y < x then y else x) = m := by split <;> omega
  rw [run_min_int2, this]
theorem ansb {P : Program} {f : FuncId} {args : Array Value} {w : World} {v : Value} (h : Calls P f args w (Ans v w)) : Calls P f args w (AnsB v w) := h.mono fun _ _ h => h.below
theorem ans_drew {w : World} {n : Nat} {v : Value} {e : Ending} {w' : World} (h : Ans v (w.drewN n) e w') : e = .returned v ∧ ∃ m, w' = w.drewN m := by
  obtain ⟨h1, k, h2⟩ := h
  exact ⟨h1, n + k, by rw [h2, World.drewN_drewN]⟩
end Go.Proofs.Ytbheabjemaaeoab
