/- Walks: the statement UtfReads. -/
import Derived.Test.YtjnmhelplacnpaaDoorMa
namespace Go.Proofs.YtjnmhelplacnpaaDoor
set_option linter.unusedVariables false
open Go.ChangeShapes Go.WideShapes Go.ChangeAt Go.RowKit

set_option maxRecDepth 1000000 in
set_option maxHeartbeats 400000 in
theorem refRune_out (s : ByteArray) (at_ : Int) (w : World) (h : at_ < 0 ∨ (s.size : Int) ≤ at_) :
    Calls Tryd.prog 10 #[.string s, .int .i64 at_] w fun e w' => e = .returned (.tuple #[.int .i64 (-1), .int .i64 0]) ∧ w = w' := by
  by_cases h0 : at_ < 0
  · have h1 : decide (at_ < 0) = true := by simpa using h0
    clear h0 h
    go_enter Tryd.func10, Tryd.ntmps10
    go_wp2_with fail
    go_ret2
    exact ⟨rfl, rfl⟩
  · have h1 : decide (at_ < 0) = false := by simp; omega
    have h2 : decide ((s.size : Int) ≤ at_) = true := by simp; omega
    clear h0 h
    go_enter Tryd.func10, Tryd.ntmps10
    go_wp2_with fail
    go_ret2
    exact ⟨rfl, rfl⟩

/-- How many bytes a mark has at the beginning. -/
def skipV (s : ByteArray) : Int := if Lib.hasPrefix s.data.toList [239, 187, 191] then 3 else 0

set_option maxHeartbeats 400000 in
theorem refSkip_any (s : ByteArray) (w : World) (hs : s.size ≤ 9223372036854775807) :
    Calls Tryd.prog 12 #[.string s] w fun e w' => e = .returned (.int .i64 (skipV s)) ∧ w = w' := by
  have hraw := Lib.hasPrefix_raw s ⟨#[239, 187, 191]⟩
  have hp3 : (⟨#[239, 187, 191]⟩ : ByteArray).size = 3 := rfl
  have hpl : (⟨#[239, 187, 191]⟩ : ByteArray).data.toList = [239, 187, 191] := rfl
  rw [hp3, hpl, Lib.toList_data ⟨#[239, 187, 191]⟩, hpl] at hraw
  have hsk : skipV s = if (decide (3 ≤ s.size) && ((s.extract 0 3).toList == [239, 187, 191])) = true then 3 else 0 := by rw [hraw]; rfl
  clear hraw hp3 hpl
  by_cases h3 : 3 ≤ s.size
  · have h4 : (3 : Int) ≤ s.size := by omega
    rw [decide_eq_true h3, Bool.true_and] at hsk
    cases he : ((s.extract 0 3).toList == [239, 187, 191]) with
    | true =>
      rw [he, if_pos rfl] at hsk
      rw [hsk]
      clear hsk
      go_enter Tryd.func12, Tryd.ntmps12
      go_wp2_with fail
      go_ret
      exact ⟨rfl, rfl⟩
    | false =>
      rw [he, if_neg (by decide)] at hsk
      rw [hsk]
      clear hsk
      go_enter Tryd.func12, Tryd.ntmps12
      go_wp2_with fail
      go_ret
      exact ⟨rfl, rfl⟩
  · have h4 : decide ((3 : Int) ≤ s.size) = false := decide_eq_false (by omega)
    rw [decide_eq_false h3, Bool.false_and, if_neg (by decide)] at hsk
    rw [hsk]
    clear hsk
    go_enter Tryd.func12, Tryd.ntmps12
    go_wp2_with fail
    go_ret
    exact ⟨rfl, rfl⟩

theorem skip_v (s : ByteArray) (w : World) : Calls Tryd.prog 11 #[.string s] w fun e w' => e = .returned (.int .i64 (skipV s)) ∧ w = w' := skip_any s w

theorem runeAt_bounds (s : ByteArray) (i : Nat) : -1 ≤ (runeAt s i).1 ∧ (runeAt s i).1 ≤ 1114111 := by
  have h : (dec s i).1 ≤ 1114111 := by
    have hb := (s.get! i).toNat_lt
    unfold dec Lib.decodeN
    repeat' split
    all_goals (simp only; omega)
  unfold runeAt runeV
  repeat' split
  all_goals (simp only; omega)

set_option maxHeartbeats 800000 in
theorem reads_walk (s : ByteArray) (at_ : Int) (w : World) (hs : s.size ≤ 140737488351232) (hT : Lib.Utf8Tabs 0 1 w) : Calls Tryd.prog 3 #[.string s, .int .i64 at_] w (LawEnd w) := by
  have ha := alive_any w hT
  have Ha := Lib.hid ha
  clear ha
  by_cases hl : 4096 < s.size
  · go_enter Tryd.func3, Tryd.ntmps3
    go_wp2_with fail
    refine Ha.out.mono ?_
    rintro e w1 ⟨rfl, hB⟩
    go_wp2_with fail
    go_ret
    exact ⟨rfl, hB⟩
  · by_cases ho : at_ < 0 ∨ (s.size : Int) ≤ at_
    · have Ho := Lib.hid ho
      clear ho
      go_enter Tryd.func3, Tryd.ntmps3
      go_wp2_with fail
      refine Ha.out.mono ?_
      rintro e w1 ⟨rfl, hB⟩
      go_wp2_with fail
      refine (rune_out s at_ _ Ho.out).mono ?_
      rintro e w2 ⟨rfl, rfl⟩
      go_wp2_with fail
      refine (refRune_out s at_ _ Ho.out).mono ?_
      rintro e w2 ⟨rfl, rfl⟩
      go_wp2_with fail
      refine (skip_v s _).mono ?_
      rintro e w2 ⟨rfl, rfl⟩
      go_wp2_with fail
      refine (refSkip_any s _ (by omega)).mono ?_
      rintro e w2 ⟨rfl, rfl⟩
      go_wp2_with fail
      go_ret
      exact ⟨rfl, hB⟩
    · obtain ⟨i, rfl⟩ : ∃ i : Nat, at_ = i := ⟨at_.toNat, by omega⟩
      have hi : i < s.size := by omega
      have hc : ∀ w1, Below w.heap.size w w1 → Calls Tryd.prog 9 #[.string s, .int .i64 i] w1 fun e w' => e = .returned (.tuple #[.int .i32 (runeAt s i).1, .int .i64 (runeAt s i).2]) ∧ Below w1.heap.size w1 w' := fun w1 hB => rune_in s i w1 hi (by omega) (tabs_below hT hB)
      have hd : ∀ w1, Calls Tryd.prog 10 #[.string s, .int .i64 i] w1 fun e w' => e = .returned (.tuple #[.int .i64 (runeAt s i).1, .int .i64 (runeAt s i).2]) ∧ Below w1.heap.size w1 w' := fun w1 => by
        have := refRune_in s i w1 hi hs
        rwa [ref_is s i hi] at this
      obtain ⟨hr1, hr2⟩ := runeAt_bounds s i
      generalize runeAt s i = d at *
      obtain ⟨r, n⟩ := d
      simp only at hc hd hr1 hr2
      have Hc := Lib.hid hc
      have Hd := Lib.hid hd
      clear hc hd ho
      go_enter Tryd.func3, Tryd.ntmps3
      go_wp2_with fail
      refine Ha.out.mono ?_
      rintro e w1 ⟨rfl, hB⟩
      go_wp2_with fail
      refine (Hc.out _ hB).mono ?_
      rintro e w2 ⟨rfl, hB2⟩
      have hB02 := hB.trans (hB2.mono hB.size)
      go_wp2_with fail
      refine (Hd.out _).mono ?_
      rintro e w3 ⟨rfl, hB3⟩
      have hB03 := hB02.trans (hB3.mono hB02.size)
      clear hB hB2 hB02 hB3
      go_wp2_with fail
      refine (skip_v s _).mono ?_
      rintro e w4 ⟨rfl, rfl⟩
      go_wp2_with fail
      refine (refSkip_any s _ (by omega)).mono ?_
      rintro e w4 ⟨rfl, rfl⟩
      go_wp2_with fail
      go_ret
      exact ⟨rfl, hB03⟩
end Go.Proofs.YtjnmhelplacnpaaDoor
