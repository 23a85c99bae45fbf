/- Walks: the statement UtfSigns. -/
import Derived.Test.YtjnmhelplacnpaaDoorWe
import Derived.Test.YtjnmhelplacnpaaDoorMb
namespace Go.Proofs.YtjnmhelplacnpaaDoor
set_option linter.unusedVariables false
open Go.ChangeShapes Go.WideShapes Go.ChangeAt Go.RowKit

theorem rune_zero (s : ByteArray) (w : World) (hi : 0 < s.size) (hs : s.size ≤ 9223372036854775807) (hT : Lib.Utf8Tabs 0 1 w) :
    Calls Tryd.prog 9 #[.string s, .int .i64 0] w fun e w' => e = .returned (.tuple #[.int .i32 (runeAt s 0).1, .int .i64 (runeAt s 0).2]) ∧ Below w.heap.size w w' := rune_in s 0 w hi hs hT

set_option maxHeartbeats 800000 in
theorem signs_no (r : Int) (s : ByteArray) (w : World) (hs : s.size ≤ 140737488351232) (hT : Lib.Utf8Tabs 0 1 w) (h : isSign r = false ∨ 1024 < s.size) : Calls Tryd.prog 4 #[.int .i64 r, .string s] w (LawEnd w) := by
  have ha := alive_any w hT
  have Ha := Lib.hid ha
  clear ha
  cases hsg : isSign r with
  | false =>
    clear h
    go_enter Tryd.func4, Tryd.ntmps4
    go_wp2_with fail
    refine Ha.out.mono ?_
    rintro e w1 ⟨rfl, hB⟩
    go_wp2_with fail
    refine (sign_any r _).mono ?_
    rintro e w2 ⟨rfl, rfl⟩
    rw [hsg]
    go_wp2_with fail
    go_ret
    exact ⟨rfl, hB⟩
  | true =>
    have hl : 1024 < s.size := by rw [hsg] at h; simpa using h
    have hd : decide ((1024 : Int) < s.size) = true := decide_eq_true (by omega)
    clear h
    go_enter Tryd.func4, Tryd.ntmps4
    go_wp2_with fail
    refine Ha.out.mono ?_
    rintro e w1 ⟨rfl, hB⟩
    go_wp2_with fail
    refine (sign_any r _).mono ?_
    rintro e w2 ⟨rfl, rfl⟩
    rw [hsg]
    go_wp2_with fail
    go_ret
    exact ⟨rfl, hB⟩

set_option maxHeartbeats 800000 in
theorem signs_yes (c : Nat) (s : ByteArray) (w : World) (hs : s.size ≤ 1024) (hT : Lib.Utf8Tabs 0 1 w) (hsg : isSign c = true) : Calls Tryd.prog 4 #[.int .i64 c, .string s] w (LawEnd w) := by
  have ha := alive_any w hT
  have Ha := Lib.hid ha
  have hcl := sign_le hsg
  have hsz := enc_size c hcl
  rw [encN_len] at hsz
  have hz1 : 1 ≤ (encB c).size := by rw [hsz]; repeat' split
                                     all_goals omega
  have hz4 : (encB c).size ≤ 4 := by rw [hsz]; repeat' split
                                     all_goals omega
  have hr1 := rune_enc (s := encB c ++ s) (p := 0) (c := c) (rest := s.data.toList) (by rw [List.drop_zero]; simp only [ByteArray.data_append, Array.toList_append]) hsg (fun _ => rfl)
  have hS : ∀ w1, Calls Tryd.prog 13 #[.int .i64 c] w1 fun e w' => e = .returned (.bool true) ∧ w1 = w' := fun w1 => by
    have := sign_any c w1
    rwa [hsg] at this
  have hY : ∀ w1, Calls Tryd.prog 14 #[.int .i64 c] w1 fun e w' => e = .returned (.string (encB c)) ∧ Below w1.heap.size w1 w' := fun w1 => bytes_any c w1 hcl
  have hR : ∀ w1, Below w.heap.size w w1 → Calls Tryd.prog 9 #[.string (encB c ++ s), .int .i64 0] w1 fun e w' => e = .returned (.tuple #[.int .i32 c, .int .i64 (encB c).size]) ∧ Below w1.heap.size w1 w' := fun w1 hB => by
    have := rune_zero (encB c ++ s) w1 (by rw [ByteArray.size_append]; omega) (by rw [ByteArray.size_append]; omega) (tabs_below hT hB)
    rwa [hr1] at this
  have hC : 1 < (encB c).size → ∀ w1, Below w.heap.size w w1 → Calls Tryd.prog 9 #[.string ((encB c).extract 0 ((encB c).size - 1)), .int .i64 0] w1 fun e w' => e = .returned (.tuple #[.int .i32 (-1), .int .i64 1]) ∧ Below w1.heap.size w1 w' := fun h1 w1 hB => by
    have := rune_zero ((encB c).extract 0 ((encB c).size - 1)) w1 (by rw [ByteArray.size_extract]; omega) (by rw [ByteArray.size_extract]; omega) (tabs_below hT hB)
    rwa [rune_cut c hsg h1] at this
  have HS := Lib.hid hS
  have HY := Lib.hid hY
  have HR := Lib.hid hR
  have HC := Lib.hid hC
  have Hsz := Lib.hid hsz
  clear ha hr1 hS hY hR hC hsg hT hsz
  have hcb : c ≤ 1114111 := hcl
  generalize encB c = b at *
  have hd : decide ((1024 : Int) < s.size) = false := decide_eq_false (by omega)
  go_enter Tryd.func4, Tryd.ntmps4
  go_wp2_with fail
  refine Ha.out.mono ?_
  rintro e w1 ⟨rfl, hB1⟩
  go_wp2_with fail
  refine (HS.out _).mono ?_
  rintro e w2 ⟨rfl, rfl⟩
  go_wp2_with fail
  refine (HY.out _).mono ?_
  rintro e w2 ⟨rfl, hB2⟩
  have hB02 := hB1.trans (hB2.mono hB1.size)
  clear hB1 hB2
  go_wp2_with fail
  refine (HR.out _ hB02).mono ?_
  rintro e w3 ⟨rfl, hB3⟩
  have hB03 := hB02.trans (hB3.mono hB02.size)
  clear hB02 hB3
  by_cases h1 : 1 < b.size
  · have h1i : (1 : Int) < b.size := by omega
    have hmin : min ((b.size : Int) - 1) 1 = 1 := by omega
    go_wp2_with fail
    refine (HC.out h1 _ hB03).mono ?_
    rintro e w4 ⟨rfl, hB4⟩
    have hB04 := hB03.trans (hB4.mono hB03.size)
    clear hB03 hB4
    go_wp2_with fail
    go_ret
    exact ⟨rfl, hB04⟩
  · have hz : b.size = 1 := by omega
    go_wp2_with fail
    refine (rune_out ByteArray.empty 0 _ (.inr (by simp))).mono ?_
    rintro e w4 ⟨rfl, rfl⟩
    go_wp2_with fail
    go_ret
    exact ⟨rfl, hB03⟩

theorem signs_walk (r : Int) (s : ByteArray) (w : World) (hs : s.size ≤ 140737488351232) (hT : Lib.Utf8Tabs 0 1 w) : Calls Tryd.prog 4 #[.int .i64 r, .string s] w (LawEnd w) := by
  by_cases h : isSign r = false ∨ 1024 < s.size
  · exact signs_no r s w hs hT h
  · have hsg : isSign r = true := by
      cases h1 : isSign r with
      | true => rfl
      | false => exact absurd (.inl h1) h
    obtain ⟨c, rfl⟩ : ∃ c : Nat, r = c := ⟨r.toNat, by have := of_decide_eq_true hsg; omega⟩
    exact signs_yes c s w (by omega) hT hsg
end Go.Proofs.YtjnmhelplacnpaaDoor
