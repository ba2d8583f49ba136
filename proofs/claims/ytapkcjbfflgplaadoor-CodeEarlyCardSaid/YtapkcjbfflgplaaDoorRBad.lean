/- The document's own answer to a script that is none. -/
import Derived.Test.YtapkcjbfflgplaaDoorRDecMath
import Derived.Test.YtapkcjbfflgplaaDoorDecode
namespace Go.Proofs.YtapkcjbfflgplaaDoor
open Go.RowKit Go.Lib Fx Ho Gr
set_option linter.unusedVariables false
namespace Cd
variable {w w' W wr : World}
/-- The answer to a script that is none. -/
def BadR (at_ : Int) (w : World) (e : Ending) (w' : World) : Prop := e = .returned (.tuple #[.agg #[.int .i64 0, .slice none 0 0], .int .i64 6, .int .i64 at_]) ∧ Below w.heap.size w w'
set_option maxRecDepth 100000 in
theorem bad_any (at_ : Int) (w : World) : Calls Tryd.prog 62 #[.int .i64 at_] w (BadR at_ w) := by
  have hk := heap_alloc_new w (.cells #[.int .i64 0, .slice none 0 0] 49)
  have hb := below_alloc (Below.refl w.heap.size w) (.cells #[.int .i64 0, .slice none 0 0] 49)
  have c0 : (w.alloc (.cells #[.int .i64 0, .slice none 0 0] 49)).cell? ⟨w.heap.size, 0, none⟩ = some (.int .i64 0) := cell_of hk rfl
  have c1 : (w.alloc (.cells #[.int .i64 0, .slice none 0 0] 49)).cell? ⟨w.heap.size, 1, none⟩ = some (.slice none 0 0) := cell_of hk rfl
  go_enter Tryd.func62, Tryd.ntmps62
  go_wp2_with fail
  refine bodyPost_ret (v := .tuple #[.agg #[.int .i64 0, .slice none 0 0], .int .i64 6, .int .i64 at_]) (by simp [results, Tryd.results62, go_sem, c0, c1]) rfl ⟨rfl, hb⟩
end Cd
end Go.Proofs.YtapkcjbfflgplaaDoor
