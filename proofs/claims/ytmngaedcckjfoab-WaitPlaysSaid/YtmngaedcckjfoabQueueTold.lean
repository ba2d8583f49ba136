/- All of a queue, and the statements' own question after a few answers. -/
import Derived.Test.YtmngaedcckjfoabQueueMore
import Derived.Test.YtmngaedcckjfoabRow
namespace Go.Proofs.Ytmngaedcckjfoab
open Go.RowKit Go.Lib Fx Ho
set_option linter.unusedVariables false
namespace Qu
variable {W0 w w' : World} {p : Nat} {v v' : Value} {L L' : List Int} {H' : Home}

end Qu
end Go.Proofs.Ytmngaedcckjfoab
