/- Walks: the statement CodeOne, small lists. -/
import Derived.Test.YtdhaanaenklleaaGreatDoorXSJo
namespace Go.Proofs.YtdhaanaenklleaaGreatDoor.S
set_option linter.unusedVariables false
open Go.ChangeShapes Go.WideShapes Go.ChangeAt Go.RowKit
end Go.Proofs.YtdhaanaenklleaaGreatDoor.S
