/- Walks: the document's Of answers ofB. -/
import Derived.Test.YtpibehfmbmincaaGreatDoorXe
namespace Go.Proofs.YtpibehfmbmincaaGreatDoor
set_option linter.unusedVariables false
open Go.ChangeShapes Go.WideShapes Go.ChangeAt Go.RowKit
def tagsQ (n : Nat) (a b c : Bool) (y z : ByteArray) : ByteArray × ByteArray :=
  if 3 ≤ n ∧ a = true ∧ b = true then (y, z) else if 2 ≤ n ∧ c = true then (z, ⟨#[]⟩) else if 2 ≤ n ∧ b = true then (⟨#[]⟩, z) else (⟨#[]⟩, ⟨#[]⟩)
theorem tagsB_eq (l : List ByteArray) : tagsB l = tagsQ l.length (inB sysL (l.getD (l.length - 2) ByteArray.empty)) (inB procL (l.getD (l.length - 1) ByteArray.empty)) (inB sysL (l.getD (l.length - 1) ByteArray.empty)) (l.getD (l.length - 2) ByteArray.empty) (l.getD (l.length - 1) ByteArray.empty) := rfl

theorem head_is (s : ByteArray) (h0 : 0 < s.size) (c : UInt8) : (((s[0]'h0).toNat : Int) == (c.toNat : Int)) = (s.data.toList.head? == some c) := by
  rw [head_of s h0, Bool.eq_iff_iff]
  simp only [beq_iff_eq, Option.some.injEq]
  constructor
  · intro h; exact UInt8.toNat_inj.1 (by omega)
  · intro h; rw [h]
theorem ex_size (s : ByteArray) (k : Nat) : (s.extract 0 (s.size - k)).size ≤ s.size := by
  rw [ByteArray.size_extract]; omega
end Go.Proofs.YtpibehfmbmincaaGreatDoor
