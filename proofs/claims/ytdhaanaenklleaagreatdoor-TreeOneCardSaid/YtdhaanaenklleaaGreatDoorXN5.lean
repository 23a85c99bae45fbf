/- Walks: a commit's bytes, by the code and by the document; A commit's bytes, read: the theory; a commit that is built of its fields; A commit that is handed in; Walks: two commits held against each other. -/
import Derived.Test.YtdhaanaenklleaaGreatDoorXN4
namespace Go.Proofs.YtdhaanaenklleaaGreatDoor
set_option linter.unusedVariables false
set_option linter.unusedSimpArgs false
open Go.ChangeShapes Go.WideShapes Go.ChangeAt Go.RowKit

end Go.Proofs.YtdhaanaenklleaaGreatDoor
namespace Go.Proofs.YtdhaanaenklleaaGreatDoor
set_option linter.unusedVariables false
set_option linter.unusedSimpArgs false
open Go.ChangeShapes Go.WideShapes Go.ChangeAt Go.RowKit

abbrev Cm := List UInt8 × List (List UInt8) × ByteArray
end Go.Proofs.YtdhaanaenklleaaGreatDoor
namespace Go.Proofs.YtdhaanaenklleaaGreatDoor
set_option linter.unusedVariables false
set_option linter.unusedSimpArgs false
open Go.ChangeShapes Go.WideShapes Go.ChangeAt Go.RowKit

end Go.Proofs.YtdhaanaenklleaaGreatDoor
namespace Go.Proofs.YtdhaanaenklleaaGreatDoor
set_option linter.unusedVariables false
set_option linter.unusedSimpArgs false
open Go.ChangeShapes Go.WideShapes Go.ChangeAt Go.RowKit

end Go.Proofs.YtdhaanaenklleaaGreatDoor
