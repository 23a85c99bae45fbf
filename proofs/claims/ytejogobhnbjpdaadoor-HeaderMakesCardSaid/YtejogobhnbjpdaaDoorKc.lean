/- Walks: keywords; behind which tokens a line feed is a semicolon; what goes on with a number. -/
import Derived.Test.YtejogobhnbjpdaaDoorKb
namespace Go.Proofs.YtejogobhnbjpdaaDoor
set_option linter.unusedVariables false
set_option linter.unusedSimpArgs false
open Go.ChangeShapes Go.WideShapes Go.ChangeAt Go.RowKit

theorem contains_or (x : ByteArray) (l : List UInt8) (r : List (List UInt8)) : (l :: r).contains x.data.toList = ((x.toList == l) || r.contains x.data.toList) := by
  rw [List.contains_cons, Lib.toList_data]
theorem joins_any (x : ByteArray) (w : World) : Calls Tryd.prog 28 #[.string x] w fun e w' => e = .returned (.bool (joinsB x)) ∧ w = w' := by
  have h := joins_or x w
  have e : joinsB x = ((x.toList == ([99, 97, 115, 101] : List UInt8)) || (x.toList == ([99, 104, 97, 110] : List UInt8)) || (x.toList == ([99, 111, 110, 115, 116] : List UInt8)) || (x.toList == ([100, 101, 102, 97, 117, 108, 116] : List UInt8)) || (x.toList == ([100, 101, 102, 101, 114] : List UInt8)) || (x.toList == ([101, 108, 115, 101] : List UInt8)) || (x.toList == ([102, 111, 114] : List UInt8)) || (x.toList == ([102, 117, 110, 99] : List UInt8)) || (x.toList == ([103, 111] : List UInt8)) || (x.toList == ([103, 111, 116, 111] : List UInt8)) || (x.toList == ([105, 102] : List UInt8)) || (x.toList == ([105, 109, 112, 111, 114, 116] : List UInt8)) || (x.toList == ([105, 110, 116, 101, 114, 102, 97, 99, 101] : List UInt8)) || (x.toList == ([109, 97, 112] : List UInt8)) || (x.toList == ([112, 97, 99, 107, 97, 103, 101] : List UInt8)) || (x.toList == ([114, 97, 110, 103, 101] : List UInt8)) || (x.toList == ([115, 101, 108, 101, 99, 116] : List UInt8)) || (x.toList == ([115, 116, 114, 117, 99, 116] : List UInt8)) || (x.toList == ([115, 119, 105, 116, 99, 104] : List UInt8)) || (x.toList == ([116, 121, 112, 101] : List UInt8)) || (x.toList == ([118, 97, 114] : List UInt8))) := by
    unfold joinsB kws
    simp only [contains_or, List.contains_nil, Bool.or_false, Bool.or_assoc]
  rw [e]; exact h
theorem isSign_any (x : ByteArray) (w : World) : Calls Tryd.prog 89 #[.string x] w fun e w' => e = .returned (.bool (signs.contains x.data.toList)) ∧ w = w' := by
  have h := isSign_or x w
  have e : signs.contains x.data.toList = ((x.toList == ([43] : List UInt8)) || (x.toList == ([45] : List UInt8)) || (x.toList == ([42] : List UInt8)) || (x.toList == ([47] : List UInt8)) || (x.toList == ([37] : List UInt8)) || (x.toList == ([38] : List UInt8)) || (x.toList == ([124] : List UInt8)) || (x.toList == ([94] : List UInt8)) || (x.toList == ([60, 60] : List UInt8)) || (x.toList == ([62, 62] : List UInt8)) || (x.toList == ([38, 94] : List UInt8)) || (x.toList == ([43, 61] : List UInt8)) || (x.toList == ([45, 61] : List UInt8)) || (x.toList == ([42, 61] : List UInt8)) || (x.toList == ([47, 61] : List UInt8)) || (x.toList == ([37, 61] : List UInt8)) || (x.toList == ([38, 61] : List UInt8)) || (x.toList == ([124, 61] : List UInt8)) || (x.toList == ([94, 61] : List UInt8)) || (x.toList == ([60, 60, 61] : List UInt8)) || (x.toList == ([62, 62, 61] : List UInt8)) || (x.toList == ([38, 94, 61] : List UInt8)) || (x.toList == ([38, 38] : List UInt8)) || (x.toList == ([124, 124] : List UInt8)) || (x.toList == ([60, 45] : List UInt8)) || (x.toList == ([43, 43] : List UInt8)) || (x.toList == ([45, 45] : List UInt8)) || (x.toList == ([61, 61] : List UInt8)) || (x.toList == ([60] : List UInt8)) || (x.toList == ([62] : List UInt8)) || (x.toList == ([61] : List UInt8)) || (x.toList == ([33] : List UInt8)) || (x.toList == ([126] : List UInt8)) || (x.toList == ([33, 61] : List UInt8)) || (x.toList == ([60, 61] : List UInt8)) || (x.toList == ([62, 61] : List UInt8)) || (x.toList == ([58, 61] : List UInt8)) || (x.toList == ([46, 46, 46] : List UInt8)) || (x.toList == ([40] : List UInt8)) || (x.toList == ([41] : List UInt8)) || (x.toList == ([91] : List UInt8)) || (x.toList == ([93] : List UInt8)) || (x.toList == ([123] : List UInt8)) || (x.toList == ([125] : List UInt8)) || (x.toList == ([44] : List UInt8)) || (x.toList == ([46] : List UInt8)) || (x.toList == ([58] : List UInt8))) := by
    unfold signs
    simp only [contains_or, List.contains_nil, Bool.or_false, Bool.or_assoc]
  rw [e]; exact h
def kw4 : List (List UInt8) := [[98, 114, 101, 97, 107], [99, 111, 110, 116, 105, 110, 117, 101], [102, 97, 108, 108, 116, 104, 114, 111, 117, 103, 104], [114, 101, 116, 117, 114, 110]]
def keyB (x : ByteArray) : Bool := kw4.contains x.data.toList || joinsB x
set_option maxHeartbeats 1000000 in
theorem keyword_any (x : ByteArray) (w : World) : Calls Tryd.prog 14 #[.string x] w fun e w' => e = .returned (.bool (keyB x)) ∧ w = w' := by
  have HJ := Lib.hid (fun w1 => joins_any x w1)
  have e : keyB x = (((x.toList == ([98, 114, 101, 97, 107] : List UInt8)) || (x.toList == ([99, 111, 110, 116, 105, 110, 117, 101] : List UInt8)) || (x.toList == ([102, 97, 108, 108, 116, 104, 114, 111, 117, 103, 104] : List UInt8)) || (x.toList == ([114, 101, 116, 117, 114, 110] : List UInt8))) || joinsB x) := by
    unfold keyB kw4
    simp only [contains_or, List.contains_nil, Bool.or_false, Bool.or_assoc]
  rw [e]
  generalize joinsB x = j at *
  clear e
  obtain ⟨b0, h0⟩ : ∃ b, (x.toList == ([98, 114, 101, 97, 107] : List UInt8)) = b := ⟨_, rfl⟩
  obtain ⟨b1, h1⟩ : ∃ b, (x.toList == ([99, 111, 110, 116, 105, 110, 117, 101] : List UInt8)) = b := ⟨_, rfl⟩
  obtain ⟨b2, h2⟩ : ∃ b, (x.toList == ([102, 97, 108, 108, 116, 104, 114, 111, 117, 103, 104] : List UInt8)) = b := ⟨_, rfl⟩
  obtain ⟨b3, h3⟩ : ∃ b, (x.toList == ([114, 101, 116, 117, 114, 110] : List UInt8)) = b := ⟨_, rfl⟩
  rw [h0, h1, h2, h3]
  go_enter Tryd.func14, Tryd.ntmps14
  go_wp2_with fail
  all_goals first
    | (go_ret; refine ⟨?_, rfl⟩; simp_all; done)
    | (exfalso; simp_all; done)
    | (refine (HJ.out _).mono ?_
       rintro e w1 ⟨rfl, rfl⟩
       go_wp2_with fail
       all_goals go_ret
       all_goals (refine ⟨?_, rfl⟩; simp_all))

theorem endsB_tok {k at_ : Nat} {x : ByteArray} : endsB (k, x, at_) = if k = 2 ∨ k = 3 ∨ k = 4 then true else if k = 1 then !joinsB x else if k = 5 then ends5.contains x.data.toList else false := rfl
set_option maxHeartbeats 1000000 in
theorem ends_any (k at_ : Nat) (x : ByteArray) (w : World) : Calls Tryd.prog 74 #[.agg #[.int .i64 k, .string x, .int .i64 at_]] w fun e w' => e = .returned (.bool (endsB (k, x, at_))) ∧ Below w.heap.size w w' := by
  have HB := Lib.hid ((Below.refl w.heap.size w).alloc (Nat.le_refl _) (.cells #[.int .i64 k, .string x, .int .i64 at_] 31))
  have hq := heap_alloc_new w (.cells #[.int .i64 k, .string x, .int .i64 at_] 31)
  have c0 := block_cell hq 0
  have c1 := block_cell hq 1
  clear hq
  rw [endsB_tok]
  rcases (by omega : k = 2 ∨ k = 3 ∨ k = 4 ∨ k = 1 ∨ k = 5 ∨ (k ≠ 1 ∧ k ≠ 2 ∧ k ≠ 3 ∧ k ≠ 4 ∧ k ≠ 5)) with rfl | rfl | rfl | rfl | rfl | ⟨n1, n2, n3, n4, n5⟩
  · go_enter Tryd.func74, Tryd.ntmps74
    go_wp2_with fail
    go_ret
    exact ⟨rfl, HB.out⟩
  · go_enter Tryd.func74, Tryd.ntmps74
    go_wp2_with fail
    go_ret
    exact ⟨rfl, HB.out⟩
  · go_enter Tryd.func74, Tryd.ntmps74
    go_wp2_with fail
    go_ret
    exact ⟨rfl, HB.out⟩
  · have HJ := Lib.hid (fun w1 => joins_any x w1)
    generalize joinsB x = j at *
    go_enter Tryd.func74, Tryd.ntmps74
    go_wp2_with fail
    refine (HJ.out _).mono ?_
    rintro e w1 ⟨rfl, rfl⟩
    go_wp2_with fail
    go_ret
    exact ⟨rfl, HB.out⟩
  · have e : ends5.contains x.data.toList = ((x.toList == ([43, 43] : List UInt8)) || (x.toList == ([45, 45] : List UInt8)) || (x.toList == ([41] : List UInt8)) || (x.toList == ([93] : List UInt8)) || (x.toList == ([125] : List UInt8))) := by
      unfold ends5
      simp only [contains_or, List.contains_nil, Bool.or_false, Bool.or_assoc]
    rw [if_neg (by omega), if_neg (by omega), if_pos rfl, e]
    clear e
    obtain ⟨b0, h0⟩ : ∃ b, (x.toList == ([43, 43] : List UInt8)) = b := ⟨_, rfl⟩
    obtain ⟨b1, h1⟩ : ∃ b, (x.toList == ([45, 45] : List UInt8)) = b := ⟨_, rfl⟩
    obtain ⟨b2, h2⟩ : ∃ b, (x.toList == ([41] : List UInt8)) = b := ⟨_, rfl⟩
    obtain ⟨b3, h3⟩ : ∃ b, (x.toList == ([93] : List UInt8)) = b := ⟨_, rfl⟩
    obtain ⟨b4, h4⟩ : ∃ b, (x.toList == ([125] : List UInt8)) = b := ⟨_, rfl⟩
    rw [h0, h1, h2, h3, h4]
    go_enter Tryd.func74, Tryd.ntmps74
    go_wp2_with fail
    all_goals go_ret
    all_goals (refine ⟨?_, HB.out⟩; simp_all)
  · have e1 : ((k : Int) == 1) = false := beq_eq_false_iff_ne.2 (by omega)
    have e2 : ((k : Int) == 2) = false := beq_eq_false_iff_ne.2 (by omega)
    have e3 : ((k : Int) == 3) = false := beq_eq_false_iff_ne.2 (by omega)
    have e4 : ((k : Int) == 4) = false := beq_eq_false_iff_ne.2 (by omega)
    have e5 : ((k : Int) == 5) = false := beq_eq_false_iff_ne.2 (by omega)
    rw [if_neg (by omega), if_neg (by omega), if_neg (by omega)]
    go_enter Tryd.func74, Tryd.ntmps74
    go_wp2_with fail
    go_ret
    exact ⟨rfl, HB.out⟩

set_option maxHeartbeats 1000000 in
theorem inNumber_any (p b : Nat) (hex : Bool) (w : World) (hb : b < 256) : Calls Tryd.prog 88 #[.int .u8 p, .int .u8 b, .bool hex] w fun e w' => e = .returned (.bool (inNum p b hex)) ∧ Below w.heap.size w w' := by
  unfold inNum
  by_cases h46 : b = 46
  · subst h46
    go_enter Tryd.func88, Tryd.ntmps88
    go_wp2_with fail
    go_ret
    exact ⟨rfl, Below.refl _ _⟩
  · rw [if_neg h46]
    have e46 : ((b : Int) == 46) = false := beq_eq_false_iff_ne.2 (by omega)
    by_cases h43 : b = 43 ∨ b = 45
    · rw [if_pos h43]
      have he : (decide (p = 112 ∨ p = 80) || (!hex && decide (p = 101 ∨ p = 69))) = ((((p : Int) == 112) || ((p : Int) == 80)) || (!hex && (((p : Int) == 101) || ((p : Int) == 69)))) := by
        rw [Bool.eq_iff_iff]; cases hex <;> simp <;> omega
      rw [he]
      clear he
      obtain ⟨b0, h0⟩ : ∃ b, ((p : Int) == 112) = b := ⟨_, rfl⟩
      obtain ⟨b1, h1⟩ : ∃ b, ((p : Int) == 80) = b := ⟨_, rfl⟩
      obtain ⟨b2, h2⟩ : ∃ b, ((p : Int) == 101) = b := ⟨_, rfl⟩
      obtain ⟨b3, h3⟩ : ∃ b, ((p : Int) == 69) = b := ⟨_, rfl⟩
      rw [h0, h1, h2, h3]
      rcases h43 with rfl | rfl
      · go_enter Tryd.func88, Tryd.ntmps88
        go_wp2_with fail
        all_goals go_ret
        all_goals (refine ⟨?_, Below.refl _ _⟩; simp_all)
      · go_enter Tryd.func88, Tryd.ntmps88
        go_wp2_with fail
        all_goals go_ret
        all_goals (refine ⟨?_, Below.refl _ _⟩; simp_all)
    · rw [if_neg h43]
      have e43 : ((b : Int) == 43) = false := beq_eq_false_iff_ne.2 (by omega)
      have e45 : ((b : Int) == 45) = false := beq_eq_false_iff_ne.2 (by omega)
      have HL := Lib.hid (fun w1 => letter_any (b : Int) w1)
      have HD := Lib.hid (fun w1 => digit_any (b : Int) w1)
      by_cases h128 : b < 128
      · have hI : (b : Int) < 128 := by omega
        rw [decide_eq_true h128]
        cases hl : letR (b : Int) with
        | true =>
          rw [hl] at HL
          clear hl
          go_enter Tryd.func88, Tryd.ntmps88
          go_wp2_with fail
          refine (HL.out _).mono ?_
          rintro e w1 ⟨rfl, rfl⟩
          go_wp2_with fail
          go_ret
          exact ⟨rfl, Below.refl _ _⟩
        | false =>
          rw [hl] at HL
          clear hl
          generalize digR (b : Int) = d at *
          go_enter Tryd.func88, Tryd.ntmps88
          go_wp2_with fail
          refine (HL.out _).mono ?_
          rintro e w1 ⟨rfl, rfl⟩
          go_wp2_with fail
          refine (HD.out _).mono ?_
          rintro e w1 ⟨rfl, rfl⟩
          go_wp2_with fail
          go_ret
          exact ⟨rfl, Below.refl _ _⟩
      · have hI : ¬ (b : Int) < 128 := by omega
        rw [decide_eq_false h128]
        go_enter Tryd.func88, Tryd.ntmps88
        go_wp2_with fail
        go_ret
        exact ⟨rfl, Below.refl _ _⟩

end Go.Proofs.YtejogobhnbjpdaaDoor
