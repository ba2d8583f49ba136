/- A queue that a statement made, and all else as it was. -/
import Derived.Test.YtmngaedcckjfoabQueueGet
namespace Go.Proofs.Ytmngaedcckjfoab
open Go.RowKit Go.Lib Fx Ho
set_option linter.unusedVariables false
namespace Qu
variable {W0 w w' : World} {p : Nat} {v v' : Value} {L L' : List Int} {H' : Home}

end Qu
end Go.Proofs.Ytmngaedcckjfoab
