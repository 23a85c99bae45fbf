/- Walks: the document's own System, Processor, Ends; what Of answers, as functions of texts. -/
import Derived.Test.YtpibehfmbmincaaGreatDoorXd
namespace Go.Proofs.YtpibehfmbmincaaGreatDoor
set_option linter.unusedVariables false
open Go.ChangeShapes Go.WideShapes Go.ChangeAt Go.RowKit
def endsB (s x : ByteArray) : Bool := decide (x.size ≤ s.size ∧ s.extract (s.size - x.size) s.size = x)
def goE : ByteArray := ⟨#[46, 103, 111]⟩
def testE : ByteArray := ⟨#[95, 116, 101, 115, 116]⟩
def passB (s : ByteArray) : Bool := s.data.toList.head? == some 95 || s.data.toList.head? == some 46
def restB (q : ByteArray) : ByteArray := if endsB q testE then q.extract 0 (q.size - 5) else q
def tagsB (l : List ByteArray) : ByteArray × ByteArray :=
  if 3 ≤ l.length ∧ inB sysL (l.getD (l.length - 2) ByteArray.empty) = true ∧ inB procL (l.getD (l.length - 1) ByteArray.empty) = true then (l.getD (l.length - 2) ByteArray.empty, l.getD (l.length - 1) ByteArray.empty)
  else if 2 ≤ l.length ∧ inB sysL (l.getD (l.length - 1) ByteArray.empty) = true then (l.getD (l.length - 1) ByteArray.empty, ⟨#[]⟩)
  else if 2 ≤ l.length ∧ inB procL (l.getD (l.length - 1) ByteArray.empty) = true then (⟨#[]⟩, l.getD (l.length - 1) ByteArray.empty)
  else (⟨#[]⟩, ⟨#[]⟩)
def ofB (s : ByteArray) : Bool × Bool × ByteArray × ByteArray :=
  if endsB s goE = false ∨ passB s = true then (false, false, ⟨#[]⟩, ⟨#[]⟩)
  else (true, endsB (s.extract 0 (s.size - 3)) testE, tagsB (cutB 95 (restB (s.extract 0 (s.size - 3)))))

theorem ends_size {s x : ByteArray} (h : endsB s x = true) : x.size ≤ s.size := by
  unfold endsB at h; exact (of_decide_eq_true h).1
theorem sys_not_proc (x : ByteArray) (h : inB sysL x = true) : inB procL x = false := by
  have hall : (sysL.all fun y => !(inB procL y)) = true := by decide +kernel
  have := List.all_eq_true.1 hall x ((inB_iff _ _).1 h)
  simpa using this
theorem head_of (s : ByteArray) (h : 0 < s.size) : s.data.toList.head? = some (s[0]'h) := by
  have e := drop_cons s 0 h
  rw [List.drop_zero] at e
  rw [e]; rfl
end Go.Proofs.YtpibehfmbmincaaGreatDoor
