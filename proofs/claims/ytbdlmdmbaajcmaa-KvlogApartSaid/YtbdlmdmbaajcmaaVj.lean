/- The statement KvlogApart, its scripts as they come in. -/
import Derived.Test.YtbdlmdmbaajcmaaVi
import Derived.Test.YtbdlmdmbaajcmaaVb
namespace Go.Proofs.Ytbdlmdmbaajcmaa
set_option linter.unusedVariables false
set_option linter.unusedSimpArgs false
open Go.ChangeShapes Go.WideShapes Go.ChangeAt Go.RowKit

theorem apart_law (v1 v2 : Value) (l1 l2 : List CX) (w : World) (h1 : Rows w 7 (callR w) v1 l1) (h2 : Rows w 7 (callR w) v2 l2) :
    Calls Try.prog 7 #[v1, v2] w fun e w' => e = .returned (.bool true) ∧ Below w.heap.size w w' := by
  obtain ⟨S1, a1, a2, a3⟩ := script_open h1
  obtain ⟨S2, b1, b2, b3⟩ := script_open h2
  exact apart_walk v1 v2 S1 S2 w a1 (fun c hc => ⟨(a2 c hc).a, (a2 c hc).z⟩) a3 b1 (fun c hc => ⟨(b2 c hc).a, (b2 c hc).z⟩) b3
end Go.Proofs.Ytbdlmdmbaajcmaa
