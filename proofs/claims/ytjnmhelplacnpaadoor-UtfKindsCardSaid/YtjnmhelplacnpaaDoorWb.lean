/- Walks: the statement UtfKinds. -/
import Derived.Test.YtjnmhelplacnpaaDoorWa
namespace Go.Proofs.YtjnmhelplacnpaaDoor
open Go.ChangeShapes Go.WideShapes Go.ChangeAt Go.RowKit

theorem wf32 {n : Int} (h : (Lit.int .i32 n).wf = true) : -2147483648 ≤ n ∧ n ≤ 2147483647 := by
  simpa [Lit.wf, IntKind.min, IntKind.max, IntKind.bits, IntKind.signed] using h

set_option maxHeartbeats 2000000 in
theorem kinds_walk (r : Int) (w : World) (hw : (Lit.int .i32 r).wf = true) (hT : Lib.Utf8Tabs 0 1 w) : Calls Tryd.prog 5 #[.int .i32 r] w (LawEnd w) := by
  obtain ⟨hlo, hhi⟩ := wf32 hw
  have ha := alive_any w hT
  have Ha := Lib.hid ha
  clear ha hw hT
  rcases (by omega : r < 9 ∨ r = 9 ∨ (10 ≤ r ∧ r ≤ 12) ∨ r = 13 ∨ (14 ≤ r ∧ r ≤ 31) ∨ r = 32 ∨ (33 ≤ r ∧ r ≤ 47) ∨ (48 ≤ r ∧ r ≤ 57) ∨ (58 ≤ r ∧ r ≤ 64) ∨ (65 ≤ r ∧ r ≤ 90) ∨ (91 ≤ r ∧ r ≤ 94) ∨ r = 95 ∨ r = 96 ∨ (97 ≤ r ∧ r ≤ 122) ∨ (123 ≤ r ∧ r ≤ 127) ∨ 128 ≤ r) with h | rfl | h | rfl | h | rfl | h | h | h | h | h | rfl | rfl | h | h | h
  all_goals
    first
      | (have e1 : (r == 95) = false := beq_eq_false_iff_ne.2 (by omega)
         have e2 : (r == 32) = false := beq_eq_false_iff_ne.2 (by omega)
         have e3 : (r == 9) = false := beq_eq_false_iff_ne.2 (by omega)
         have e4 : (r == 13) = false := beq_eq_false_iff_ne.2 (by omega)
         try obtain ⟨hb, hc⟩ := h
         try (have e5 : decide (r ≤ 90) = false := decide_eq_false (by omega))
         try (have e6 : decide (128 ≤ r) = false := decide_eq_false (by omega))
         try (have e7 : decide (r ≤ 122) = false := decide_eq_false (by omega))
         go_enter Tryd.func5, Tryd.ntmps5
         go_wp2_with fail
         refine Ha.out.mono ?_
         rintro e w1 ⟨rfl, hB⟩
         go_wp2
         go_ret
         exact ⟨rfl, hB⟩)
      | (go_enter Tryd.func5, Tryd.ntmps5
         go_wp2_with fail
         refine Ha.out.mono ?_
         rintro e w1 ⟨rfl, hB⟩
         go_wp2
         go_ret
         exact ⟨rfl, hB⟩)
end Go.Proofs.YtjnmhelplacnpaaDoor
