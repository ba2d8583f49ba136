/- AuditEach: a few more facts for its walk. -/
import Derived.Test.YtneibhcigbfigaaVwAu7
namespace Go.Proofs.Ytneibhcigbfigaa
open Go.RowKit Go.Lib Fx Ho Gr
set_option linter.unusedVariables false
namespace Vw
variable {W : World} {q : Nat} {vg vs vo : Value} {ph g1 st P s0 a1 nt : Int} {n0 : Nat} {m0 m1 : Bool}
theorem box9e (h : Box9 q (VE ph g1 n0 st P s0 a1 m0 m1 nt) vg vs vo W) : W.cell? ⟨q, 0, none⟩ = some (.int .i64 ph) ∧ W.cell? ⟨q, 1, none⟩ = some (.int .i64 0) ∧ W.cell? ⟨q, 2, none⟩ = some (.int .i64 0) ∧ W.cell? ⟨q, 3, none⟩ = some vg ∧ W.cell? ⟨q, 4, none⟩ = some vs ∧ W.cell? ⟨q, 5, none⟩ = some vo ∧ W.cell? ⟨q, 6, none⟩ = some (.int .i64 0) ∧ W.cell? ⟨q, 7, none⟩ = some (.int .i64 nt) ∧ W.cell? ⟨q, 8, none⟩ = some (.int .i64 0) := h
theorem vve {f : FuncId} {ex : Array Value} {R : Ending → World → Prop} (h : Calls Try.prog f (#[vv (VE ph g1 n0 st P s0 a1 m0 m1 nt) vg vs vo] ++ ex) W R) : Calls Try.prog f (#[.agg #[.int .i64 ph, .int .i64 0, .int .i64 0, vg, vs, vo, .int .i64 0, .int .i64 nt, .int .i64 0]] ++ ex) W R := h
theorem wrd_at (W : World) : ∀ i, i < 8 → (W.alloc (.cells #[.string ⟨#[108, 111, 115, 116]⟩, .string ⟨#[111, 98, 106, 101, 99, 116, 115]⟩, .string ⟨#[116, 119, 105, 99, 101]⟩, .string ⟨#[112, 108, 97, 99, 101, 115]⟩, .string ⟨#[119, 111, 114, 107]⟩, .string ⟨#[119, 104, 105, 116, 101]⟩, .string ⟨#[110, 117, 109, 98, 101, 114, 115]⟩, .string ⟨#[109, 97, 114, 107, 101, 100]⟩] 9)).cell? ⟨W.heap.size, i, none⟩ = some (.string (ruT i)) := fun i hi => by
  have k := heap_alloc_new W (.cells #[.string ⟨#[108, 111, 115, 116]⟩, .string ⟨#[111, 98, 106, 101, 99, 116, 115]⟩, .string ⟨#[116, 119, 105, 99, 101]⟩, .string ⟨#[112, 108, 97, 99, 101, 115]⟩, .string ⟨#[119, 111, 114, 107]⟩, .string ⟨#[119, 104, 105, 116, 101]⟩, .string ⟨#[110, 117, 109, 98, 101, 114, 115]⟩, .string ⟨#[109, 97, 114, 107, 101, 100]⟩] 9)
  rcases (show i = 0 ∨ i = 1 ∨ i = 2 ∨ i = 3 ∨ i = 4 ∨ i = 5 ∨ i = 6 ∨ i = 7 by omega) with rfl | rfl | rfl | rfl | rfl | rfl | rfl | rfl
  all_goals exact cell_of k rfl
end Vw
end Go.Proofs.Ytneibhcigbfigaa
