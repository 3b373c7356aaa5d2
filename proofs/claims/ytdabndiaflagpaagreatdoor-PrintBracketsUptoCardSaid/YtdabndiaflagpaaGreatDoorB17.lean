/- Parts: LxR6. -/
import Derived.Deep.CutRange
import Derived.Test.YtdabndiaflagpaaGreatDoorB16
set_option maxRecDepth 100000
set_option maxHeartbeats 4000000
set_option linter.unusedVariables false
namespace Go.Proofs.YtdabndiaflagpaaGreatDoor
open Go.RowKit

end Go.Proofs.YtdabndiaflagpaaGreatDoor
