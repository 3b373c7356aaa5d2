/- Parts: PsX7. -/
import Derived.Deep.LoopGhost
import Derived.Test.YtdabndiaflagpaaGreatDoorB21
set_option maxRecDepth 100000
set_option maxHeartbeats 4000000
set_option linter.unusedVariables false
namespace Go.Proofs.YtdabndiaflagpaaGreatDoor
open Go.RowKit

end Go.Proofs.YtdabndiaflagpaaGreatDoor
