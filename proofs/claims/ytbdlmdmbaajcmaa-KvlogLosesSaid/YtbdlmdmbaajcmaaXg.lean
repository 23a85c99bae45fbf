/- The statement KvlogLoses, its script as it comes in. -/
import Derived.Test.YtbdlmdmbaajcmaaXf
namespace Go.Proofs.Ytbdlmdmbaajcmaa
open Go.ChangeShapes Go.WideShapes Go.ChangeAt Go.RowKit

theorem loses_law (most : Int) (v : Value) (l : List CX) (w : World) (h : Rows w 7 (callR w) v l) :
    Calls Try.prog 4 #[.int .i64 most, v] w fun e w' => e = .returned (.bool true) ∧ Below w.heap.size w w' := by
  obtain ⟨S, h1, h2', h3⟩ := script_open h
  exact loses_walk most v S w h1 h2' h3
end Go.Proofs.Ytbdlmdmbaajcmaa
