/- Walks: the words that join, the keywords, the signs. -/
import Derived.Test.YtejogobhnbjpdaaDoorKa
import Derived.Test.YtejogobhnbjpdaaDoorWe
namespace Go.Proofs.YtejogobhnbjpdaaDoor
set_option linter.unusedVariables false
set_option linter.unusedSimpArgs false
open Go.ChangeShapes Go.WideShapes Go.ChangeAt Go.RowKit

theorem beq_data (x y : ByteArray) : (x.toList == y.toList) = decide (x.data.toList = y.data.toList) := by
  rw [Lib.toList_data, Lib.toList_data]
  by_cases h : x.data.toList = y.data.toList
  · rw [h]; simp
  · rw [beq_eq_false_iff_ne.2 h, decide_eq_false h]

set_option maxRecDepth 100000 in
set_option maxHeartbeats 4000000 in
theorem joins_or (x : ByteArray) (w : World) : Calls Tryd.prog 28 #[.string x] w fun e w' => e = .returned (.bool ((x.toList == ([99, 97, 115, 101] : List UInt8)) || (x.toList == ([99, 104, 97, 110] : List UInt8)) || (x.toList == ([99, 111, 110, 115, 116] : List UInt8)) || (x.toList == ([100, 101, 102, 97, 117, 108, 116] : List UInt8)) || (x.toList == ([100, 101, 102, 101, 114] : List UInt8)) || (x.toList == ([101, 108, 115, 101] : List UInt8)) || (x.toList == ([102, 111, 114] : List UInt8)) || (x.toList == ([102, 117, 110, 99] : List UInt8)) || (x.toList == ([103, 111] : List UInt8)) || (x.toList == ([103, 111, 116, 111] : List UInt8)) || (x.toList == ([105, 102] : List UInt8)) || (x.toList == ([105, 109, 112, 111, 114, 116] : List UInt8)) || (x.toList == ([105, 110, 116, 101, 114, 102, 97, 99, 101] : List UInt8)) || (x.toList == ([109, 97, 112] : List UInt8)) || (x.toList == ([112, 97, 99, 107, 97, 103, 101] : List UInt8)) || (x.toList == ([114, 97, 110, 103, 101] : List UInt8)) || (x.toList == ([115, 101, 108, 101, 99, 116] : List UInt8)) || (x.toList == ([115, 116, 114, 117, 99, 116] : List UInt8)) || (x.toList == ([115, 119, 105, 116, 99, 104] : List UInt8)) || (x.toList == ([116, 121, 112, 101] : List UInt8)) || (x.toList == ([118, 97, 114] : List UInt8)))) ∧ w = w' := by
  obtain ⟨b0, h0⟩ : ∃ b, (x.toList == ([99, 97, 115, 101] : List UInt8)) = b := ⟨_, rfl⟩
  obtain ⟨b1, h1⟩ : ∃ b, (x.toList == ([99, 104, 97, 110] : List UInt8)) = b := ⟨_, rfl⟩
  obtain ⟨b2, h2⟩ : ∃ b, (x.toList == ([99, 111, 110, 115, 116] : List UInt8)) = b := ⟨_, rfl⟩
  obtain ⟨b3, h3⟩ : ∃ b, (x.toList == ([100, 101, 102, 97, 117, 108, 116] : List UInt8)) = b := ⟨_, rfl⟩
  obtain ⟨b4, h4⟩ : ∃ b, (x.toList == ([100, 101, 102, 101, 114] : List UInt8)) = b := ⟨_, rfl⟩
  obtain ⟨b5, h5⟩ : ∃ b, (x.toList == ([101, 108, 115, 101] : List UInt8)) = b := ⟨_, rfl⟩
  obtain ⟨b6, h6⟩ : ∃ b, (x.toList == ([102, 111, 114] : List UInt8)) = b := ⟨_, rfl⟩
  obtain ⟨b7, h7⟩ : ∃ b, (x.toList == ([102, 117, 110, 99] : List UInt8)) = b := ⟨_, rfl⟩
  obtain ⟨b8, h8⟩ : ∃ b, (x.toList == ([103, 111] : List UInt8)) = b := ⟨_, rfl⟩
  obtain ⟨b9, h9⟩ : ∃ b, (x.toList == ([103, 111, 116, 111] : List UInt8)) = b := ⟨_, rfl⟩
  obtain ⟨b10, h10⟩ : ∃ b, (x.toList == ([105, 102] : List UInt8)) = b := ⟨_, rfl⟩
  obtain ⟨b11, h11⟩ : ∃ b, (x.toList == ([105, 109, 112, 111, 114, 116] : List UInt8)) = b := ⟨_, rfl⟩
  obtain ⟨b12, h12⟩ : ∃ b, (x.toList == ([105, 110, 116, 101, 114, 102, 97, 99, 101] : List UInt8)) = b := ⟨_, rfl⟩
  obtain ⟨b13, h13⟩ : ∃ b, (x.toList == ([109, 97, 112] : List UInt8)) = b := ⟨_, rfl⟩
  obtain ⟨b14, h14⟩ : ∃ b, (x.toList == ([112, 97, 99, 107, 97, 103, 101] : List UInt8)) = b := ⟨_, rfl⟩
  obtain ⟨b15, h15⟩ : ∃ b, (x.toList == ([114, 97, 110, 103, 101] : List UInt8)) = b := ⟨_, rfl⟩
  obtain ⟨b16, h16⟩ : ∃ b, (x.toList == ([115, 101, 108, 101, 99, 116] : List UInt8)) = b := ⟨_, rfl⟩
  obtain ⟨b17, h17⟩ : ∃ b, (x.toList == ([115, 116, 114, 117, 99, 116] : List UInt8)) = b := ⟨_, rfl⟩
  obtain ⟨b18, h18⟩ : ∃ b, (x.toList == ([115, 119, 105, 116, 99, 104] : List UInt8)) = b := ⟨_, rfl⟩
  obtain ⟨b19, h19⟩ : ∃ b, (x.toList == ([116, 121, 112, 101] : List UInt8)) = b := ⟨_, rfl⟩
  obtain ⟨b20, h20⟩ : ∃ b, (x.toList == ([118, 97, 114] : List UInt8)) = b := ⟨_, rfl⟩
  rw [h0, h1, h2, h3, h4, h5, h6, h7, h8, h9, h10, h11, h12, h13, h14, h15, h16, h17, h18, h19, h20]
  go_enter Tryd.func28, Tryd.ntmps28
  go_wp2_with fail
  all_goals go_ret
  all_goals (refine ⟨?_, rfl⟩; simp_all)

set_option maxRecDepth 100000 in
set_option maxHeartbeats 4000000 in
theorem isSign_or (x : ByteArray) (w : World) : Calls Tryd.prog 89 #[.string x] w fun e w' => e = .returned (.bool ((x.toList == ([43] : List UInt8)) || (x.toList == ([45] : List UInt8)) || (x.toList == ([42] : List UInt8)) || (x.toList == ([47] : List UInt8)) || (x.toList == ([37] : List UInt8)) || (x.toList == ([38] : List UInt8)) || (x.toList == ([124] : List UInt8)) || (x.toList == ([94] : List UInt8)) || (x.toList == ([60, 60] : List UInt8)) || (x.toList == ([62, 62] : List UInt8)) || (x.toList == ([38, 94] : List UInt8)) || (x.toList == ([43, 61] : List UInt8)) || (x.toList == ([45, 61] : List UInt8)) || (x.toList == ([42, 61] : List UInt8)) || (x.toList == ([47, 61] : List UInt8)) || (x.toList == ([37, 61] : List UInt8)) || (x.toList == ([38, 61] : List UInt8)) || (x.toList == ([124, 61] : List UInt8)) || (x.toList == ([94, 61] : List UInt8)) || (x.toList == ([60, 60, 61] : List UInt8)) || (x.toList == ([62, 62, 61] : List UInt8)) || (x.toList == ([38, 94, 61] : List UInt8)) || (x.toList == ([38, 38] : List UInt8)) || (x.toList == ([124, 124] : List UInt8)) || (x.toList == ([60, 45] : List UInt8)) || (x.toList == ([43, 43] : List UInt8)) || (x.toList == ([45, 45] : List UInt8)) || (x.toList == ([61, 61] : List UInt8)) || (x.toList == ([60] : List UInt8)) || (x.toList == ([62] : List UInt8)) || (x.toList == ([61] : List UInt8)) || (x.toList == ([33] : List UInt8)) || (x.toList == ([126] : List UInt8)) || (x.toList == ([33, 61] : List UInt8)) || (x.toList == ([60, 61] : List UInt8)) || (x.toList == ([62, 61] : List UInt8)) || (x.toList == ([58, 61] : List UInt8)) || (x.toList == ([46, 46, 46] : List UInt8)) || (x.toList == ([40] : List UInt8)) || (x.toList == ([41] : List UInt8)) || (x.toList == ([91] : List UInt8)) || (x.toList == ([93] : List UInt8)) || (x.toList == ([123] : List UInt8)) || (x.toList == ([125] : List UInt8)) || (x.toList == ([44] : List UInt8)) || (x.toList == ([46] : List UInt8)) || (x.toList == ([58] : List UInt8)))) ∧ w = w' := by
  obtain ⟨b0, h0⟩ : ∃ b, (x.toList == ([43] : List UInt8)) = b := ⟨_, rfl⟩
  obtain ⟨b1, h1⟩ : ∃ b, (x.toList == ([45] : List UInt8)) = b := ⟨_, rfl⟩
  obtain ⟨b2, h2⟩ : ∃ b, (x.toList == ([42] : List UInt8)) = b := ⟨_, rfl⟩
  obtain ⟨b3, h3⟩ : ∃ b, (x.toList == ([47] : List UInt8)) = b := ⟨_, rfl⟩
  obtain ⟨b4, h4⟩ : ∃ b, (x.toList == ([37] : List UInt8)) = b := ⟨_, rfl⟩
  obtain ⟨b5, h5⟩ : ∃ b, (x.toList == ([38] : List UInt8)) = b := ⟨_, rfl⟩
  obtain ⟨b6, h6⟩ : ∃ b, (x.toList == ([124] : List UInt8)) = b := ⟨_, rfl⟩
  obtain ⟨b7, h7⟩ : ∃ b, (x.toList == ([94] : List UInt8)) = b := ⟨_, rfl⟩
  obtain ⟨b8, h8⟩ : ∃ b, (x.toList == ([60, 60] : List UInt8)) = b := ⟨_, rfl⟩
  obtain ⟨b9, h9⟩ : ∃ b, (x.toList == ([62, 62] : List UInt8)) = b := ⟨_, rfl⟩
  obtain ⟨b10, h10⟩ : ∃ b, (x.toList == ([38, 94] : List UInt8)) = b := ⟨_, rfl⟩
  obtain ⟨b11, h11⟩ : ∃ b, (x.toList == ([43, 61] : List UInt8)) = b := ⟨_, rfl⟩
  obtain ⟨b12, h12⟩ : ∃ b, (x.toList == ([45, 61] : List UInt8)) = b := ⟨_, rfl⟩
  obtain ⟨b13, h13⟩ : ∃ b, (x.toList == ([42, 61] : List UInt8)) = b := ⟨_, rfl⟩
  obtain ⟨b14, h14⟩ : ∃ b, (x.toList == ([47, 61] : List UInt8)) = b := ⟨_, rfl⟩
  obtain ⟨b15, h15⟩ : ∃ b, (x.toList == ([37, 61] : List UInt8)) = b := ⟨_, rfl⟩
  obtain ⟨b16, h16⟩ : ∃ b, (x.toList == ([38, 61] : List UInt8)) = b := ⟨_, rfl⟩
  obtain ⟨b17, h17⟩ : ∃ b, (x.toList == ([124, 61] : List UInt8)) = b := ⟨_, rfl⟩
  obtain ⟨b18, h18⟩ : ∃ b, (x.toList == ([94, 61] : List UInt8)) = b := ⟨_, rfl⟩
  obtain ⟨b19, h19⟩ : ∃ b, (x.toList == ([60, 60, 61] : List UInt8)) = b := ⟨_, rfl⟩
  obtain ⟨b20, h20⟩ : ∃ b, (x.toList == ([62, 62, 61] : List UInt8)) = b := ⟨_, rfl⟩
  obtain ⟨b21, h21⟩ : ∃ b, (x.toList == ([38, 94, 61] : List UInt8)) = b := ⟨_, rfl⟩
  obtain ⟨b22, h22⟩ : ∃ b, (x.toList == ([38, 38] : List UInt8)) = b := ⟨_, rfl⟩
  obtain ⟨b23, h23⟩ : ∃ b, (x.toList == ([124, 124] : List UInt8)) = b := ⟨_, rfl⟩
  obtain ⟨b24, h24⟩ : ∃ b, (x.toList == ([60, 45] : List UInt8)) = b := ⟨_, rfl⟩
  obtain ⟨b25, h25⟩ : ∃ b, (x.toList == ([43, 43] : List UInt8)) = b := ⟨_, rfl⟩
  obtain ⟨b26, h26⟩ : ∃ b, (x.toList == ([45, 45] : List UInt8)) = b := ⟨_, rfl⟩
  obtain ⟨b27, h27⟩ : ∃ b, (x.toList == ([61, 61] : List UInt8)) = b := ⟨_, rfl⟩
  obtain ⟨b28, h28⟩ : ∃ b, (x.toList == ([60] : List UInt8)) = b := ⟨_, rfl⟩
  obtain ⟨b29, h29⟩ : ∃ b, (x.toList == ([62] : List UInt8)) = b := ⟨_, rfl⟩
  obtain ⟨b30, h30⟩ : ∃ b, (x.toList == ([61] : List UInt8)) = b := ⟨_, rfl⟩
  obtain ⟨b31, h31⟩ : ∃ b, (x.toList == ([33] : List UInt8)) = b := ⟨_, rfl⟩
  obtain ⟨b32, h32⟩ : ∃ b, (x.toList == ([126] : List UInt8)) = b := ⟨_, rfl⟩
  obtain ⟨b33, h33⟩ : ∃ b, (x.toList == ([33, 61] : List UInt8)) = b := ⟨_, rfl⟩
  obtain ⟨b34, h34⟩ : ∃ b, (x.toList == ([60, 61] : List UInt8)) = b := ⟨_, rfl⟩
  obtain ⟨b35, h35⟩ : ∃ b, (x.toList == ([62, 61] : List UInt8)) = b := ⟨_, rfl⟩
  obtain ⟨b36, h36⟩ : ∃ b, (x.toList == ([58, 61] : List UInt8)) = b := ⟨_, rfl⟩
  obtain ⟨b37, h37⟩ : ∃ b, (x.toList == ([46, 46, 46] : List UInt8)) = b := ⟨_, rfl⟩
  obtain ⟨b38, h38⟩ : ∃ b, (x.toList == ([40] : List UInt8)) = b := ⟨_, rfl⟩
  obtain ⟨b39, h39⟩ : ∃ b, (x.toList == ([41] : List UInt8)) = b := ⟨_, rfl⟩
  obtain ⟨b40, h40⟩ : ∃ b, (x.toList == ([91] : List UInt8)) = b := ⟨_, rfl⟩
  obtain ⟨b41, h41⟩ : ∃ b, (x.toList == ([93] : List UInt8)) = b := ⟨_, rfl⟩
  obtain ⟨b42, h42⟩ : ∃ b, (x.toList == ([123] : List UInt8)) = b := ⟨_, rfl⟩
  obtain ⟨b43, h43⟩ : ∃ b, (x.toList == ([125] : List UInt8)) = b := ⟨_, rfl⟩
  obtain ⟨b44, h44⟩ : ∃ b, (x.toList == ([44] : List UInt8)) = b := ⟨_, rfl⟩
  obtain ⟨b45, h45⟩ : ∃ b, (x.toList == ([46] : List UInt8)) = b := ⟨_, rfl⟩
  obtain ⟨b46, h46⟩ : ∃ b, (x.toList == ([58] : List UInt8)) = b := ⟨_, rfl⟩
  rw [h0, h1, h2, h3, h4, h5, h6, h7, h8, h9, h10, h11, h12, h13, h14, h15, h16, h17, h18, h19, h20, h21, h22, h23, h24, h25, h26, h27, h28, h29, h30, h31, h32, h33, h34, h35, h36, h37, h38, h39, h40, h41, h42, h43, h44, h45, h46]
  go_enter Tryd.func89, Tryd.ntmps89
  go_wp2_with fail
  all_goals go_ret
  all_goals (refine ⟨?_, rfl⟩; simp_all)

theorem letter_or (r : Int) (w : World) : Calls Tryd.prog 66 #[.int .i32 r] w fun e w' => e = .returned (.bool (((decide (97 ≤ r)) && (decide (r ≤ 122))) || ((decide (65 ≤ r)) && (decide (r ≤ 90))) || (r == 95) || (decide (128 ≤ r)))) ∧ w = w' := by
  obtain ⟨b0, h0⟩ : ∃ b, (decide (97 ≤ r)) = b := ⟨_, rfl⟩
  obtain ⟨b1, h1⟩ : ∃ b, (decide (r ≤ 122)) = b := ⟨_, rfl⟩
  obtain ⟨b2, h2⟩ : ∃ b, (decide (65 ≤ r)) = b := ⟨_, rfl⟩
  obtain ⟨b3, h3⟩ : ∃ b, (decide (r ≤ 90)) = b := ⟨_, rfl⟩
  obtain ⟨b4, h4⟩ : ∃ b, (r == 95) = b := ⟨_, rfl⟩
  obtain ⟨b5, h5⟩ : ∃ b, (decide (128 ≤ r)) = b := ⟨_, rfl⟩
  rw [h0, h1, h2, h3, h4, h5]
  go_enter Tryd.func66, Tryd.ntmps66
  go_wp2_with fail
  all_goals go_ret
  all_goals (refine ⟨?_, rfl⟩; simp_all)
theorem letter_any (r : Int) (w : World) : Calls Tryd.prog 66 #[.int .i32 r] w fun e w' => e = .returned (.bool (letR r)) ∧ w = w' := by
  have h : letR r = (((decide (97 ≤ r)) && (decide (r ≤ 122))) || ((decide (65 ≤ r)) && (decide (r ≤ 90))) || (r == 95) || (decide (128 ≤ r))) := by
    rw [Bool.eq_iff_iff]; simp [letR]; try omega
  rw [h]
  exact letter_or r w

theorem digit_or (r : Int) (w : World) : Calls Tryd.prog 69 #[.int .i32 r] w fun e w' => e = .returned (.bool ((decide (48 ≤ r)) && (decide (r ≤ 57)))) ∧ w = w' := by
  obtain ⟨b0, h0⟩ : ∃ b, (decide (48 ≤ r)) = b := ⟨_, rfl⟩
  obtain ⟨b1, h1⟩ : ∃ b, (decide (r ≤ 57)) = b := ⟨_, rfl⟩
  rw [h0, h1]
  go_enter Tryd.func69, Tryd.ntmps69
  go_wp2_with fail
  all_goals go_ret
  all_goals (refine ⟨?_, rfl⟩; simp_all)
theorem digit_any (r : Int) (w : World) : Calls Tryd.prog 69 #[.int .i32 r] w fun e w' => e = .returned (.bool (digR r)) ∧ w = w' := by
  have h : digR r = ((decide (48 ≤ r)) && (decide (r ≤ 57))) := by
    rw [Bool.eq_iff_iff]; simp [digR]; try omega
  rw [h]
  exact digit_or r w

theorem blank_or (r : Int) (w : World) : Calls Tryd.prog 62 #[.int .i32 r] w fun e w' => e = .returned (.bool ((r == 32) || (r == 9) || (r == 13))) ∧ w = w' := by
  obtain ⟨b0, h0⟩ : ∃ b, (r == 32) = b := ⟨_, rfl⟩
  obtain ⟨b1, h1⟩ : ∃ b, (r == 9) = b := ⟨_, rfl⟩
  obtain ⟨b2, h2⟩ : ∃ b, (r == 13) = b := ⟨_, rfl⟩
  rw [h0, h1, h2]
  go_enter Tryd.func62, Tryd.ntmps62
  go_wp2_with fail
  all_goals go_ret
  all_goals (refine ⟨?_, rfl⟩; simp_all)
theorem blank_any (r : Int) (w : World) : Calls Tryd.prog 62 #[.int .i32 r] w fun e w' => e = .returned (.bool (blkR r)) ∧ w = w' := by
  have h : blkR r = ((r == 32) || (r == 9) || (r == 13)) := by
    rw [Bool.eq_iff_iff]; simp [blkR]; try omega
  rw [h]
  exact blank_or r w

theorem refLetter_or (r : Int) (w : World) : Calls Tryd.prog 40 #[.int .i64 r] w fun e w' => e = .returned (.bool ((decide (128 ≤ r)) || (r == 95) || ((decide (65 ≤ r)) && (decide (r ≤ 90))) || ((decide (97 ≤ r)) && (decide (r ≤ 122))))) ∧ w = w' := by
  obtain ⟨b0, h0⟩ : ∃ b, (decide (128 ≤ r)) = b := ⟨_, rfl⟩
  obtain ⟨b1, h1⟩ : ∃ b, (r == 95) = b := ⟨_, rfl⟩
  obtain ⟨b2, h2⟩ : ∃ b, (decide (65 ≤ r)) = b := ⟨_, rfl⟩
  obtain ⟨b3, h3⟩ : ∃ b, (decide (r ≤ 90)) = b := ⟨_, rfl⟩
  obtain ⟨b4, h4⟩ : ∃ b, (decide (97 ≤ r)) = b := ⟨_, rfl⟩
  obtain ⟨b5, h5⟩ : ∃ b, (decide (r ≤ 122)) = b := ⟨_, rfl⟩
  rw [h0, h1, h2, h3, h4, h5]
  go_enter Tryd.func40, Tryd.ntmps40
  go_wp2_with fail
  all_goals go_ret
  all_goals (refine ⟨?_, rfl⟩; simp_all)
theorem refLetter_any (r : Int) (w : World) : Calls Tryd.prog 40 #[.int .i64 r] w fun e w' => e = .returned (.bool (letR r)) ∧ w = w' := by
  have h : letR r = ((decide (128 ≤ r)) || (r == 95) || ((decide (65 ≤ r)) && (decide (r ≤ 90))) || ((decide (97 ≤ r)) && (decide (r ≤ 122)))) := by
    rw [Bool.eq_iff_iff]; simp [letR]; try omega
  rw [h]
  exact refLetter_or r w

theorem refDigit_or (r : Int) (w : World) : Calls Tryd.prog 42 #[.int .i64 r] w fun e w' => e = .returned (.bool ((decide (48 ≤ r)) && (decide (r ≤ 57)))) ∧ w = w' := by
  obtain ⟨b0, h0⟩ : ∃ b, (decide (48 ≤ r)) = b := ⟨_, rfl⟩
  obtain ⟨b1, h1⟩ : ∃ b, (decide (r ≤ 57)) = b := ⟨_, rfl⟩
  rw [h0, h1]
  go_enter Tryd.func42, Tryd.ntmps42
  go_wp2_with fail
  all_goals go_ret
  all_goals (refine ⟨?_, rfl⟩; simp_all)
theorem refDigit_any (r : Int) (w : World) : Calls Tryd.prog 42 #[.int .i64 r] w fun e w' => e = .returned (.bool (digR r)) ∧ w = w' := by
  have h : digR r = ((decide (48 ≤ r)) && (decide (r ≤ 57))) := by
    rw [Bool.eq_iff_iff]; simp [digR]; try omega
  rw [h]
  exact refDigit_or r w

theorem refBlank_or (r : Int) (w : World) : Calls Tryd.prog 30 #[.int .i64 r] w fun e w' => e = .returned (.bool ((r == 32) || (r == 9) || (r == 13))) ∧ w = w' := by
  obtain ⟨b0, h0⟩ : ∃ b, (r == 32) = b := ⟨_, rfl⟩
  obtain ⟨b1, h1⟩ : ∃ b, (r == 9) = b := ⟨_, rfl⟩
  obtain ⟨b2, h2⟩ : ∃ b, (r == 13) = b := ⟨_, rfl⟩
  rw [h0, h1, h2]
  go_enter Tryd.func30, Tryd.ntmps30
  go_wp2_with fail
  all_goals go_ret
  all_goals (refine ⟨?_, rfl⟩; simp_all)
theorem refBlank_any (r : Int) (w : World) : Calls Tryd.prog 30 #[.int .i64 r] w fun e w' => e = .returned (.bool (blkR r)) ∧ w = w' := by
  have h : blkR r = ((r == 32) || (r == 9) || (r == 13)) := by
    rw [Bool.eq_iff_iff]; simp [blkR]; try omega
  rw [h]
  exact refBlank_or r w

end Go.Proofs.YtejogobhnbjpdaaDoor
