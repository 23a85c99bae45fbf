/- The statement KvlogFull, its script as it comes in. -/
import Derived.Test.YtbdlmdmbaajcmaaVa
import Derived.Test.YtbdlmdmbaajcmaaVb
namespace Go.Proofs.Ytbdlmdmbaajcmaa
set_option linter.unusedVariables false
set_option linter.unusedSimpArgs false
open Go.ChangeShapes Go.WideShapes Go.ChangeAt Go.RowKit

theorem full_law (room : Int) (v : Value) (l : List CX) (w : World) (h : Rows w 7 (callR w) v l) :
    Calls Try.prog 6 #[.int .i64 room, v] w fun e w' => e = .returned (.bool true) ∧ Below w.heap.size w w' := by
  obtain ⟨S, h1, h2, h3⟩ := script_open h
  exact full_walk room v S w h1 (fun c hc => ⟨(h2 c hc).a, (h2 c hc).z⟩) h3
end Go.Proofs.Ytbdlmdmbaajcmaa
