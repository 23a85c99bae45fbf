/- Walks: whether a commit can be; what the document tells of stage 7; the statement ObjectTrees; Walks: the statement ObjectTrees; Walks: the statement ObjectLess. -/
import Derived.Test.YtdhaanaenklleaaGreatDoorXN3
namespace Go.Proofs.YtdhaanaenklleaaGreatDoor
set_option linter.unusedVariables false
set_option linter.unusedSimpArgs false
open Go.ChangeShapes Go.WideShapes Go.ChangeAt Go.RowKit

end Go.Proofs.YtdhaanaenklleaaGreatDoor
namespace Go.Proofs.YtdhaanaenklleaaGreatDoor
set_option linter.unusedVariables false
set_option linter.unusedSimpArgs false
open Go.ChangeShapes Go.WideShapes Go.ChangeAt Go.RowKit

end Go.Proofs.YtdhaanaenklleaaGreatDoor
namespace Go.Proofs.YtdhaanaenklleaaGreatDoor
set_option linter.unusedVariables false
set_option linter.unusedSimpArgs false
open Go.ChangeShapes Go.WideShapes Go.ChangeAt Go.RowKit

def NewG (N0 : Nat) : Value → World → Prop := fun v w => ∃ B, v = .slice (some ⟨B, 0, none⟩) 0 0 ∧ N0 ≤ B ∧ w.heap[B]? = some (.cells #[] 58 (0, 0))
theorem NewG.st1 (N0 : Nat) : K2.St1 (NewG N0) := fun v w1 w2 ⟨B, h1, h2, h3⟩ hB => ⟨B, h1, h2, by rw [hB.block B (lt_of_block h3), h3]⟩
theorem putR_good {a : List Ent} (h : goodT a = true) : putR a = .tuple #[.string (treeB a), .int .i64 0] := by unfold putR; rw [if_pos h, if_pos h]
end Go.Proofs.YtdhaanaenklleaaGreatDoor
