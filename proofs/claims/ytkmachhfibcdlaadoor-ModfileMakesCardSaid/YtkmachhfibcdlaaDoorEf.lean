/- The statement ModfileMakes, whole. -/
import Derived.Test.YtkmachhfibcdlaaDoorEd
import Derived.Test.YtkmachhfibcdlaaDoorEe
namespace Go.Proofs.YtkmachhfibcdlaaDoor
set_option linter.unusedVariables false
open Go.ChangeShapes Go.WideShapes Go.ChangeAt Go.RowKit
theorem makes_walk (p : ByteArray) (lv : Int) (bl : Bool) (x2 : Option Addr) (n2 c2 : Nat) (x3 : Option Addr) (n3 c3 : Nat) (F D : List ByteArray) (w : World) (hE : Env w) (hp : p.size ≤ 140737488351232) (hF : Strs w (.slice x2 n2 c2) F) (zF : ∀ s ∈ F, s.size ≤ 140737488351232) (lF : F.length ≤ 9223372036854775807) (hD : Strs w (.slice x3 n3 c3) D) (zD : ∀ s ∈ D, s.size ≤ 140737488351232) (lD : D.length ≤ 9223372036854775807) :
    Calls Tryd.prog 4 #[.string p, .int .i64 lv, .slice x2 n2 c2, .slice x3 n3 c3, .bool bl] w fun e w' => e = .returned (.bool true) ∧ Below w.heap.size w w' := by
  by_cases h : lv < 0 ∨ 9999 < lv ∨ 20 < F.length ∨ D.length < F.length
  · exact makes_early p lv bl x2 n2 c2 x3 n3 c3 F D w hE hp hF lF hD lD h
  · obtain ⟨n, rfl⟩ : ∃ n : Nat, lv = (n : Int) := ⟨lv.toNat, by omega⟩
    cases bl with
    | true => exact makes_block p n x2 n2 c2 x3 n3 c3 F D w hE hp hF zF hD zD (by omega) (by omega) (by omega) lD
    | false => exact makes_one p n x2 n2 c2 x3 n3 c3 F D w hE hp hF zF hD zD (by omega) (by omega) (by omega) lD
end Go.Proofs.YtkmachhfibcdlaaDoor
