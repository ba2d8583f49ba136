/- What the document's own Out makes of a row: it without the first such number, in a new block, or itself. -/
import Derived.Test.YtpclacaiabbmjaaRow
namespace Go.Proofs.Ytpclacaiabbmjaa
open Go.RowKit Go.Lib Fx Ho Qu
set_option linter.unusedVariables false
namespace Rw
variable {w w' : World} {p : Nat} {v : Value} {zs A B : List Int} {H H' S : Home}
end Rw
end Go.Proofs.Ytpclacaiabbmjaa
