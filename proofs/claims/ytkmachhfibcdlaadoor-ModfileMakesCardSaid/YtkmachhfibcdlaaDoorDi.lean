/- The statement ModfileOrder, whole. -/
import Derived.Test.YtkmachhfibcdlaaDoorDh
namespace Go.Proofs.YtkmachhfibcdlaaDoor
set_option linter.unusedVariables false
open Go.ChangeShapes Go.WideShapes Go.ChangeAt Go.RowKit
theorem order_walk (p : ByteArray) (lv : Int) (x2 : Option Addr) (n2 c2 : Nat) (x3 : Option Addr) (n3 c3 : Nat) (F O : List ByteArray) (w : World) (hE : Env w) (hp : p.size ≤ 140737488351232) (hF : Strs w (.slice x2 n2 c2) F) (zF : ∀ s ∈ F, s.size ≤ 140737488351232) (lF : F.length ≤ 9223372036854775807) (hO : Strs w (.slice x3 n3 c3) O) (zO : ∀ s ∈ O, s.size ≤ 140737488351232) (lO : O.length ≤ 9223372036854775807) :
    Calls Tryd.prog 5 #[.string p, .int .i64 lv, .slice x2 n2 c2, .slice x3 n3 c3] w fun e w' => e = .returned (.bool true) ∧ Below w.heap.size w w' := by
  by_cases h : lv < 0 ∨ 9 < lv ∨ 20 < F.length ∨ 20 < O.length
  · exact order_early p lv x2 n2 c2 x3 n3 c3 F O w hE hp hF zF lF hO zO lO h
  · obtain ⟨n, rfl⟩ : ∃ n : Nat, lv = (n : Int) := ⟨lv.toNat, by omega⟩
    exact order_main p n x2 n2 c2 x3 n3 c3 F O w hE hp hF zF hO zO (by omega) (by omega) (by omega)
end Go.Proofs.YtkmachhfibcdlaaDoor
