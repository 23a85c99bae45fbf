/- The statement KvlogDoes, its script as it comes in. -/
import Derived.Test.YtbdlmdmbaajcmaaVe
import Derived.Test.YtbdlmdmbaajcmaaVb
namespace Go.Proofs.Ytbdlmdmbaajcmaa
set_option linter.unusedVariables false
set_option linter.unusedSimpArgs false
open Go.ChangeShapes Go.WideShapes Go.ChangeAt Go.RowKit

theorem does_law (room most : Int) (v : Value) (l : List CX) (w : World) (h : Rows w 7 (callR w) v l) :
    Calls Try.prog 3 #[.int .i64 room, .int .i64 most, v] w fun e w' => e = .returned (.bool true) ∧ Below w.heap.size w w' := by
  obtain ⟨S, h1, h2, h3⟩ := script_open h
  exact does_walk room most v S w h1 (fun c hc => ⟨(h2 c hc).a, (h2 c hc).z⟩) h3
end Go.Proofs.Ytbdlmdmbaajcmaa
