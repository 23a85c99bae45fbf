/- Walks: lists of strings: whether two are the same; whether one is great. -/
import Derived.Test.YtdhaanaenklleaaDoorSJc
namespace Go.Proofs.YtdhaanaenklleaaDoor.S
open Go.ChangeShapes Go.WideShapes Go.ChangeAt Go.RowKit

/-- How many bytes texts have in all. -/
def total : List ByteArray → Nat | [] => 0 | s :: r => s.size + total r
theorem total_append (a b : List ByteArray) : total (a ++ b) = total a + total b := by
  induction a with
  | nil => simp [total]
  | cons s r ih => simp [total, ih]; omega

theorem total_take (ss : List ByteArray) (k : Nat) (h : k < ss.length) : total (ss.take (k + 1)) = total (ss.take k) + (ss.getD k ByteArray.empty).size := by
  rw [List.take_succ_eq_append_getElem h, total_append]
  simp [total, List.getD, h]

theorem total_mono (ss : List ByteArray) (k m : Nat) (h : k ≤ m) (hm : m ≤ ss.length) : total (ss.take k) ≤ total (ss.take m) := by
  induction m with
  | zero => have : k = 0 := by omega
            subst this; exact Nat.le_refl _
  | succ m ih =>
    by_cases e : k = m + 1
    · subst e; exact Nat.le_refl _
    · have := ih (by omega) (by omega)
      rw [total_take ss m (by omega)]
      omega

theorem toList_eq {x y : ByteArray} (h : (!x.toList == y.toList) = false) : x = y := by
  have : x.toList = y.toList := by simpa using h
  rw [Lib.toList_data, Lib.toList_data] at this
  exact ByteArray.ext (Array.toList_inj.1 this)

theorem toList_ne {x y : ByteArray} (h : (!x.toList == y.toList) = true) : x ≠ y := by
  rintro rfl
  simp at h

/-- Two rows of one length, held against each other. -/
def SameEnd (w : World) (a b : List ByteArray) (e : Ending) (w' : World) : Prop := e = .returned (.bool (decide (a = b))) ∧ ∃ k, w' = w.drewN k

end Go.Proofs.YtdhaanaenklleaaDoor.S
