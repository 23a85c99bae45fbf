/- Walks over the numbers of package code; Walks: the document's number, a part, two lists held against each other; Walks: a text is split; Walks: the document's Split. -/
import Derived.Test.YtdhaanaenklleaaGreatDoorQ4
import Derived.Test.YtdhaanaenklleaaGreatDoorXSJm
import Derived.WalkKit
import Derived.ProofKit
import Derived.OpenShut
import Derived.WalkSpells
import Derived.WalkLawsBesides
import Derived.Below
import Derived.Deep.DeepFit
import Derived.RegionTactic
import Derived.ChangeAlike
import Derived.Deep.QuietTactic
import Derived.BigQuiet
import Derived.Laws.MakeOwn
namespace Go.Proofs.YtdhaanaenklleaaGreatDoor.S
open Go.ChangeShapes Go.WideShapes Go.ChangeAt Go.RowKit

end Go.Proofs.YtdhaanaenklleaaGreatDoor.S
namespace Go.Proofs.YtdhaanaenklleaaGreatDoor.S
open Go.ChangeShapes Go.WideShapes Go.ChangeAt Go.RowKit
end Go.Proofs.YtdhaanaenklleaaGreatDoor.S
namespace Go.Proofs.YtdhaanaenklleaaGreatDoor.S
open Go.ChangeShapes Go.WideShapes Go.ChangeAt Go.RowKit

theorem Tryz.info9 : (Tryz.prog.info? 9).map (fun i => (i.zero, i.size, i.bytes)) = some (some (.string ⟨#[]⟩), 1, 16) := by kernel_rfl

end Go.Proofs.YtdhaanaenklleaaGreatDoor.S
namespace Go.Proofs.YtdhaanaenklleaaGreatDoor.S
open Go.ChangeShapes Go.WideShapes Go.ChangeAt Go.RowKit

/-- The document's answer: the parts, and true; or some list, and false. -/
def RefEnd (w : World) (r : Option (List ByteArray)) (e : Ending) (w' : World) : Prop :=
  Below w.heap.size w w' ∧ match r with
  | none => ∃ v, e = .returned (.tuple #[v, .bool false])
  | some ps => ∃ v, e = .returned (.tuple #[v, .bool true]) ∧ Strs w' v ps

end Go.Proofs.YtdhaanaenklleaaGreatDoor.S
