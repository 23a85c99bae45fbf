/- Walks: the statement CodeOne, small lists. -/
import Derived.Test.YtdhaanaenklleaaDoorXSJo
namespace Go.Proofs.YtdhaanaenklleaaDoor.S
set_option linter.unusedVariables false
open Go.ChangeShapes Go.WideShapes Go.ChangeAt Go.RowKit
theorem total_mem (ss : List ByteArray) : ∀ p ∈ ss, p.size ≤ total ss := by
  induction ss with
  | nil => intro p h; cases h
  | cons a r ih =>
    intro p h
    rcases List.mem_cons.1 h with rfl | h
    · simp [total]
    · have := ih p h; simp [total]; omega
theorem great_case (ss : List ByteArray) : (8192 < total ss ∨ 200 < ss.length) ∨ (total ss ≤ 8192 ∧ ss.length ≤ 200) := by omega
/-- Whether a list is great, whatever it is. -/
def isGreat (ss : List ByteArray) : Bool := decide (8192 < total ss ∨ 200 < ss.length)

theorem not_great {ss : List ByteArray} (h : isGreat ss = false) : total ss ≤ 8192 ∧ ss.length ≤ 200 := by
  simp [isGreat] at h; omega

theorem toList_beq_ne {x y : ByteArray} (h : x ≠ y) : (x.toList == y.toList) = false := by
  rw [beq_eq_false_iff_ne]
  intro e
  apply h
  rw [Lib.toList_data, Lib.toList_data] at e
  exact ba_ext e

/-- What the end of the law needs: both joined, and held against each other. -/
theorem joins_beq (a b : List ByteArray) (hta : total a ≤ 8192) (hla : a.length ≤ 200) (htb : total b ≤ 8192) (hlb : b.length ≤ 200) : ((joinB a).toList == (joinB b).toList) = decide (a = b) := by
  have hone := join_one a b (by omega) (by omega) (fun p hp => by have := total_mem a p hp; omega) (fun p hp => by have := total_mem b p hp; omega)
  by_cases h : a = b
  · subst h; simp
  · rw [toList_beq_ne (fun e => h (hone.1 e))]; simp [h]


end Go.Proofs.YtdhaanaenklleaaDoor.S
