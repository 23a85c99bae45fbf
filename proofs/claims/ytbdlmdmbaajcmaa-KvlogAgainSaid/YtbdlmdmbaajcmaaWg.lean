/- The statement KvlogAgain, its lists as they come in. -/
import Derived.Test.YtbdlmdmbaajcmaaWf
namespace Go.Proofs.Ytbdlmdmbaajcmaa
open Go.ChangeShapes Go.WideShapes Go.ChangeAt Go.RowKit

theorem again_law (most : Int) (v : Value) (l : List CX) (u : Value) (F : List Int) (keep : Int) (torn : Bool) (w : World) (h : Rows w 7 (callR w) v l) (h2 : Rows w 1 (intR .i64) u F) :
    Calls Try.prog 5 #[.int .i64 most, v, u, .int .i64 keep, .bool torn] w fun e w' => e = .returned (.bool true) ∧ Below w.heap.size w w' := by
  obtain ⟨S, h1, h2', h3⟩ := script_open h
  exact again_walk most v u S F keep torn w h1 (fun c hc => ⟨(h2' c hc).a, (h2' c hc).z⟩) h3 (nums_open h2)
end Go.Proofs.Ytbdlmdmbaajcmaa
