/- Walks: the document's terms, lines and what is put between texts. -/
import Derived.Test.YtpibehfmbmincaaGreatDoorRb
namespace Go.Proofs.YtpibehfmbmincaaGreatDoor
set_option linter.unusedVariables false
open Go.ChangeShapes Go.WideShapes Go.ChangeAt Go.RowKit
theorem first_is (t : ByteArray) (h : 0 < t.size) : t.data.toList = t[0]'h :: t.data.toList.drop 1 := by
  have hl : 0 < t.data.toList.length := by rw [ba_len]; exact h
  have := List.drop_eq_getElem_cons (l := t.data.toList) (i := 0) hl
  rw [List.drop_zero] at this
  exact this

theorem sums_take (L : List ByteArray) : ∀ k, sums (L.take k) ≤ sums L := by
  induction L with
  | nil => intro k; simp
  | cons a r ih =>
    intro k
    cases k with
    | zero => simp [sums]
    | succ k => simp only [List.take_succ_cons, sums]; have := ih k; omega

theorem maps_take {val : ByteArray → ByteArray} {ss : List ByteArray} {k : Nat} (hk : k < ss.length) : (ss.take (k + 1)).map val = (ss.take k).map val ++ [val (ss.getD k ByteArray.empty)] := by
  rw [List.take_succ_eq_append_getElem hk, List.map_append]
  simp only [List.getD_eq_getElem?_getD, List.getElem?_eq_getElem hk, Option.getD_some, List.map_cons, List.map_nil]
end Go.Proofs.YtpibehfmbmincaaGreatDoor
