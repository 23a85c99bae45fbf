/- Walks: the statement UtfReads. -/
import Derived.Test.YtejogobhnbjpdaaDoorMa
namespace Go.Proofs.YtejogobhnbjpdaaDoor
set_option linter.unusedVariables false
open Go.ChangeShapes Go.WideShapes Go.ChangeAt Go.RowKit

set_option maxRecDepth 1000000 in
set_option maxHeartbeats 400000 in
theorem refRune_out (s : ByteArray) (at_ : Int) (w : World) (h : at_ < 0 ∨ (s.size : Int) ≤ at_) :
    Calls Tryd.prog 37 #[.string s, .int .i64 at_] w fun e w' => e = .returned (.tuple #[.int .i64 (-1), .int .i64 0]) ∧ w = w' := by
  by_cases h0 : at_ < 0
  · have h1 : decide (at_ < 0) = true := by simpa using h0
    clear h0 h
    go_enter Tryd.func37, Tryd.ntmps37
    go_wp2_with fail
    go_ret2
    exact ⟨rfl, rfl⟩
  · have h1 : decide (at_ < 0) = false := by simp; omega
    have h2 : decide ((s.size : Int) ≤ at_) = true := by simp; omega
    clear h0 h
    go_enter Tryd.func37, Tryd.ntmps37
    go_wp2_with fail
    go_ret2
    exact ⟨rfl, rfl⟩

/-- How many bytes a mark has at the beginning. -/
def skipV (s : ByteArray) : Int := if Lib.hasPrefix s.data.toList [239, 187, 191] then 3 else 0

set_option maxRecDepth 100000 in
set_option maxHeartbeats 400000 in
theorem refSkip_any (s : ByteArray) (w : World) (hs : s.size ≤ 9223372036854775807) :
    Calls Tryd.prog 19 #[.string s] w fun e w' => e = .returned (.int .i64 (skipV s)) ∧ w = w' := by
  have hraw := Lib.hasPrefix_raw s ⟨#[239, 187, 191]⟩
  have hp3 : (⟨#[239, 187, 191]⟩ : ByteArray).size = 3 := rfl
  have hpl : (⟨#[239, 187, 191]⟩ : ByteArray).data.toList = [239, 187, 191] := rfl
  rw [hp3, hpl, Lib.toList_data ⟨#[239, 187, 191]⟩, hpl] at hraw
  have hsk : skipV s = if (decide (3 ≤ s.size) && ((s.extract 0 3).toList == [239, 187, 191])) = true then 3 else 0 := by rw [hraw]; rfl
  clear hraw hp3 hpl
  by_cases h3 : 3 ≤ s.size
  · have h4 : (3 : Int) ≤ s.size := by omega
    rw [decide_eq_true h3, Bool.true_and] at hsk
    cases he : ((s.extract 0 3).toList == [239, 187, 191]) with
    | true =>
      rw [he, if_pos rfl] at hsk
      rw [hsk]
      clear hsk
      go_enter Tryd.func19, Tryd.ntmps19
      go_wp2_with fail
      go_ret
      exact ⟨rfl, rfl⟩
    | false =>
      rw [he, if_neg (by decide)] at hsk
      rw [hsk]
      clear hsk
      go_enter Tryd.func19, Tryd.ntmps19
      go_wp2_with fail
      go_ret
      exact ⟨rfl, rfl⟩
  · have h4 : decide ((3 : Int) ≤ s.size) = false := decide_eq_false (by omega)
    rw [decide_eq_false h3, Bool.false_and, if_neg (by decide)] at hsk
    rw [hsk]
    clear hsk
    go_enter Tryd.func19, Tryd.ntmps19
    go_wp2_with fail
    go_ret
    exact ⟨rfl, rfl⟩

theorem skip_v (s : ByteArray) (w : World) : Calls Tryd.prog 46 #[.string s] w fun e w' => e = .returned (.int .i64 (skipV s)) ∧ w = w' := skip_any s w

theorem runeAt_bounds (s : ByteArray) (i : Nat) : -1 ≤ (runeAt s i).1 ∧ (runeAt s i).1 ≤ 1114111 := by
  have h : (dec s i).1 ≤ 1114111 := by
    have hb := (s.get! i).toNat_lt
    unfold dec Lib.decodeN
    repeat' split
    all_goals (simp only; omega)
  unfold runeAt runeV
  repeat' split
  all_goals (simp only; omega)

end Go.Proofs.YtejogobhnbjpdaaDoor
