/- Walks: the statement ModfileMakes, early ends. -/
import Derived.Test.YtkmachhfibcdlaaDoorEa
namespace Go.Proofs.YtkmachhfibcdlaaDoor
set_option linter.unusedVariables false
set_option linter.unusedSimpArgs false
open Go.ChangeShapes Go.WideShapes Go.ChangeAt Go.RowKit

set_option maxRecDepth 100000 in
set_option maxHeartbeats 1500000 in
theorem makes_early (p : ByteArray) (lv : Int) (bl : Bool) (x2 : Option Addr) (n2 c2 : Nat) (x3 : Option Addr) (n3 c3 : Nat) (F D : List ByteArray) (w : World) (hE : Env w) (hp : p.size ≤ 140737488351232) (hF : Strs w (.slice x2 n2 c2) F) (lF : F.length ≤ 9223372036854775807) (hD : Strs w (.slice x3 n3 c3) D) (lD : D.length ≤ 9223372036854775807) (hbad : lv < 0 ∨ 9999 < lv ∨ 20 < F.length ∨ D.length < F.length) :
    Calls Tryd.prog 4 #[.string p, .int .i64 lv, .slice x2 n2 c2, .slice x3 n3 c3, .bool bl] w fun e w' => e = .returned (.bool true) ∧ Below w.heap.size w w' := by
  obtain ⟨rfl, hqF⟩ := hF.cells
  obtain ⟨rfl, hqD⟩ := hD.cells
  have HA := Lib.hid (alive_any w hE)
  have HE := Lib.hid hE
  have HW := Lib.hid (fun w1 => word_any p w1 hp)
  clear hE hqF hqD hF hD
  by_cases hl0 : lv < 0
  · clear hbad
    go_enter Tryd.func4, Tryd.ntmps4
    go_wp2_with fail
    refine HA.out.mono ?_
    rintro r w1 ⟨rfl, hB⟩
    have HB := Lib.hid hB
    clear hB
    go_wp2_with fail
    refine (HW.out _).mono ?_
    rintro r w2 ⟨⟨b, rfl, hb⟩, rfl⟩
    clear hb
    cases b
    · go_wp2_with fail
      go_ret
      exact ⟨rfl, HB.out⟩
    · go_wp2_with fail
      go_ret
      exact ⟨rfl, HB.out⟩
  by_cases hl9 : 9999 < lv
  · clear hbad
    go_enter Tryd.func4, Tryd.ntmps4
    go_wp2_with fail
    refine HA.out.mono ?_
    rintro r w1 ⟨rfl, hB⟩
    have HB := Lib.hid hB
    clear hB
    go_wp2_with fail
    refine (HW.out _).mono ?_
    rintro r w2 ⟨⟨b, rfl, hb⟩, rfl⟩
    clear hb
    cases b
    · go_wp2_with fail
      go_ret
      exact ⟨rfl, HB.out⟩
    · go_wp2_with fail
      go_ret
      exact ⟨rfl, HB.out⟩
  by_cases h20 : 20 < F.length
  · have h20I : (20 : Int) < (F.length : Int) := by omega
    clear hbad
    go_enter Tryd.func4, Tryd.ntmps4
    go_wp2_with fail
    refine HA.out.mono ?_
    rintro r w1 ⟨rfl, hB⟩
    have HB := Lib.hid hB
    clear hB
    go_wp2_with fail
    refine (HW.out _).mono ?_
    rintro r w2 ⟨⟨b, rfl, hb⟩, rfl⟩
    clear hb
    cases b
    · go_wp2_with fail
      go_ret
      exact ⟨rfl, HB.out⟩
    · go_wp2_with fail
      go_ret
      exact ⟨rfl, HB.out⟩
  have h20I : ¬ (20 : Int) < (F.length : Int) := by omega
  by_cases hDF : D.length < F.length
  · have hDFI : (D.length : Int) < (F.length : Int) := by omega
    clear hbad
    go_enter Tryd.func4, Tryd.ntmps4
    go_wp2_with fail
    refine HA.out.mono ?_
    rintro r w1 ⟨rfl, hB⟩
    have HB := Lib.hid hB
    clear hB
    go_wp2_with fail
    refine (HW.out _).mono ?_
    rintro r w2 ⟨⟨b, rfl, hb⟩, rfl⟩
    clear hb
    cases b
    · go_wp2_with fail
      go_ret
      exact ⟨rfl, HB.out⟩
    · go_wp2_with fail
      go_ret
      exact ⟨rfl, HB.out⟩
  omega
end Go.Proofs.YtkmachhfibcdlaaDoor
