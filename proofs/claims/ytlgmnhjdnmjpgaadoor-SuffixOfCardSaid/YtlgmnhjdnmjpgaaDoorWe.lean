/- Walks: the document's own System, Processor, Ends; what Of answers, as functions of texts. -/
import Derived.Test.YtlgmnhjdnmjpgaaDoorWd
namespace Go.Proofs.YtlgmnhjdnmjpgaaDoor
set_option linter.unusedVariables false
open Go.ChangeShapes Go.WideShapes Go.ChangeAt Go.RowKit

theorem refSystem_any (s : ByteArray) (w : World) : Calls Tryd.prog 9 #[.string s] w fun e w' => e = .returned (.bool (inB sysL s)) ∧ Below w.heap.size w w' := by
  go_enter Tryd.func9, Tryd.ntmps9
  go_wp2_with fail
  refine (systems_any _).mono ?_
  rintro e w1 ⟨v, rfl, hv, hB⟩
  go_wp2_with fail
  refine (in_any v sysL s w1 hv).mono ?_
  rintro e w2 ⟨rfl, rfl⟩
  go_wp2_with fail
  go_ret
  exact ⟨rfl, hB⟩
theorem refProcessor_any (s : ByteArray) (w : World) : Calls Tryd.prog 11 #[.string s] w fun e w' => e = .returned (.bool (inB procL s)) ∧ Below w.heap.size w w' := by
  go_enter Tryd.func11, Tryd.ntmps11
  go_wp2_with fail
  refine (processors_any _).mono ?_
  rintro e w1 ⟨v, rfl, hv, hB⟩
  go_wp2_with fail
  refine (in_any v procL s w1 hv).mono ?_
  rintro e w2 ⟨rfl, rfl⟩
  go_wp2_with fail
  go_ret
  exact ⟨rfl, hB⟩

def endsB (s x : ByteArray) : Bool := decide (x.size ≤ s.size ∧ s.extract (s.size - x.size) s.size = x)
theorem ends_any (s x : ByteArray) (w : World) (hs : s.size ≤ 1073741824) (hx : x.size ≤ 1073741824) : Calls Tryd.prog 21 #[.string s, .string x] w fun e w' => e = .returned (.bool (endsB s x)) ∧ w = w' := by
  by_cases hle : x.size ≤ s.size
  · have h1 : ((x.size : Int) ≤ (s.size : Int)) := by omega
    have hb : ((s.extract (s.size - x.size) s.size).toList == x.toList) = endsB s x := by
      unfold endsB
      by_cases he : s.extract (s.size - x.size) s.size = x
      · rw [beq_of he]; simp [hle, he]
      · rw [beq_of_ne he]; simp [he]
    have Hb := Lib.hid hb
    clear hb
    go_enter Tryd.func21, Tryd.ntmps21
    go_wp2_with fail
    go_ret
    exact ⟨by rw [← Hb.out]; rfl, rfl⟩
  · have h1 : ¬ ((x.size : Int) ≤ (s.size : Int)) := by omega
    have hb : endsB s x = false := by unfold endsB; simp [hle]
    have Hb := Lib.hid hb
    clear hb
    go_enter Tryd.func21, Tryd.ntmps21
    go_wp2_with fail
    go_ret
    exact ⟨by rw [Hb.out]; rfl, rfl⟩

def goE : ByteArray := ⟨#[46, 103, 111]⟩
def testE : ByteArray := ⟨#[95, 116, 101, 115, 116]⟩
def passB (s : ByteArray) : Bool := s.data.toList.head? == some 95 || s.data.toList.head? == some 46
def restB (q : ByteArray) : ByteArray := if endsB q testE then q.extract 0 (q.size - 5) else q
def tagsB (l : List ByteArray) : ByteArray × ByteArray :=
  if 3 ≤ l.length ∧ inB sysL (l.getD (l.length - 2) ByteArray.empty) = true ∧ inB procL (l.getD (l.length - 1) ByteArray.empty) = true then (l.getD (l.length - 2) ByteArray.empty, l.getD (l.length - 1) ByteArray.empty)
  else if 2 ≤ l.length ∧ inB sysL (l.getD (l.length - 1) ByteArray.empty) = true then (l.getD (l.length - 1) ByteArray.empty, ⟨#[]⟩)
  else if 2 ≤ l.length ∧ inB procL (l.getD (l.length - 1) ByteArray.empty) = true then (⟨#[]⟩, l.getD (l.length - 1) ByteArray.empty)
  else (⟨#[]⟩, ⟨#[]⟩)
def ofB (s : ByteArray) : Bool × Bool × ByteArray × ByteArray :=
  if endsB s goE = false ∨ passB s = true then (false, false, ⟨#[]⟩, ⟨#[]⟩)
  else (true, endsB (s.extract 0 (s.size - 3)) testE, tagsB (cutB 95 (restB (s.extract 0 (s.size - 3)))))

theorem ends_size {s x : ByteArray} (h : endsB s x = true) : x.size ≤ s.size := by
  unfold endsB at h; exact (of_decide_eq_true h).1
theorem sys_not_proc (x : ByteArray) (h : inB sysL x = true) : inB procL x = false := by
  have hall : (sysL.all fun y => !(inB procL y)) = true := by decide +kernel
  have := List.all_eq_true.1 hall x ((inB_iff _ _).1 h)
  simpa using this
theorem head_of (s : ByteArray) (h : 0 < s.size) : s.data.toList.head? = some (s[0]'h) := by
  have e := drop_cons s 0 h
  rw [List.drop_zero] at e
  rw [e]; rfl
end Go.Proofs.YtlgmnhjdnmjpgaaDoor
