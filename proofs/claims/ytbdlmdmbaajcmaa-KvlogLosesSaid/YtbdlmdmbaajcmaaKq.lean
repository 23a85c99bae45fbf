/- A region that draws its order and holds calls that make memory: walked once. -/
import Derived.BigQuiet
import Derived.Below
namespace Go.Proofs.Ytbdlmdmbaajcmaa
open Go.RowKit

/-- A region that draws its order, walked once in the order of the text, its operations leaving the world in a class. -/
theorem wp_region_class {P : Program} {id : Nat} {Q : Exit → Act → World → Prop} {a : Act} {w : World} {l : List Oper} (C : World → Prop) (hm : P.follows .mixedOrders = true) (hB : Region.lexB .any l.toArray = true) (hC : C w.drew)
    (h : wpQuiet P l.toArray C (fun a' => ∀ w', C w' → Q .normal a' w') l a) : (Code.region id l.toArray true).wp P Q a w :=
  wp_region_quiet (C := C) hm hB hC (by simpa using h)
end Go.Proofs.Ytbdlmdmbaajcmaa
