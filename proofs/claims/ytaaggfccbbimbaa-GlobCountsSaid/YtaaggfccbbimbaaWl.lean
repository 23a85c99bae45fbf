/- Walks: the statement GlobCounts. -/
import Derived.Test.YtaaggfccbbimbaaWj
namespace Go.Proofs.Ytaaggfccbbimbaa
set_option linter.unusedVariables false
set_option linter.unusedSimpArgs false
open Go.ChangeShapes Go.WideShapes Go.ChangeAt Go.RowKit

def anyB (n : Nat) : ByteArray := mkB (List.replicate n 63)
theorem anyB_size (n : Nat) : (anyB n).size = n := by simp [anyB, mkB_size]
theorem anyB_next (n : Nat) : anyB n ++ ⟨#[63]⟩ = anyB (n + 1) := by
  apply ba_ext
  rw [ba_append]
  show List.replicate n 63 ++ [63] = List.replicate (n + 1) 63
  rw [List.replicate_succ']
theorem counts_1 (s : ByteArray) (n : Nat) : globB (anyB n) s = (noSl s.data.toList && decide (n = s.size), 0) := by
  show globR (List.replicate n 63) s.data.toList = _
  rw [globR_some (parse_anys n), matB_eq _ _ (noSl s.data.toList && decide (n = s.size))]
  rw [mat_any, ba_len, Bool.and_eq_true, decide_eq_true_iff]
  exact ⟨fun h => ⟨h.2, h.1.symm⟩, fun h => ⟨h.2.symm, h.1⟩⟩
theorem counts_2 (s : ByteArray) (n : Nat) : globB ((⟨#[42]⟩ : ByteArray) ++ anyB n) s = (noSl s.data.toList && decide (n ≤ s.size), 0) := by
  have e : ((⟨#[42]⟩ : ByteArray) ++ anyB n).data.toList = [42] ++ List.replicate n 63 := by rw [ba_append]; rfl
  show globR ((⟨#[42]⟩ : ByteArray) ++ anyB n).data.toList s.data.toList = _
  rw [e, globR_some (parse_app _ [42] _ _ _ (Nat.le_refl _) parse_star (parse_anys n)), matB_eq _ _ (noSl s.data.toList && decide (n ≤ s.size))]
  show Mat (starP :: List.replicate n anyP) s.data.toList ↔ _
  rw [mat_star_any, ba_len, Bool.and_eq_true, decide_eq_true_iff, and_comm]
theorem counts_3 (s : ByteArray) (n : Nat) : globB (anyB n ++ ⟨#[42]⟩) s = (noSl s.data.toList && decide (n ≤ s.size), 0) := by
  have e : (anyB n ++ (⟨#[42]⟩ : ByteArray)).data.toList = List.replicate n 63 ++ [42] := by rw [ba_append]; rfl
  show globR (anyB n ++ (⟨#[42]⟩ : ByteArray)).data.toList s.data.toList = _
  rw [e, globR_some (parse_app _ _ [42] _ _ (Nat.le_refl _) (parse_anys n) parse_star), matB_eq _ _ (noSl s.data.toList && decide (n ≤ s.size))]
  rw [mat_any_star, ba_len, Bool.and_eq_true, decide_eq_true_iff, and_comm]

set_option maxHeartbeats 1000000 in
theorem counts_some (s : ByteArray) (n : Nat) (w : World) (hs : s.size ≤ 200) (hn : n ≤ 200) : Calls Try.prog 6 #[.string s, .int .i64 n] w (LawEnd w) := by
  have HA := Lib.hid (alive_any w)
  have h1 : (s.size : Int) ≤ 200 := by omega
  have h2 : (0 : Int) ≤ (n : Int) := by omega
  have h3 : (n : Int) ≤ 200 := by omega
  have hz : (anyB n).size ≤ 1048576 := by rw [anyB_size]; omega
  have hz2 : ((⟨#[42]⟩ : ByteArray) ++ anyB n).size ≤ 1048576 := by rw [ByteArray.size_append, anyB_size]; show 1 + n ≤ _; omega
  have hz3 : (anyB n ++ (⟨#[42]⟩ : ByteArray)).size ≤ 1048576 := by rw [ByteArray.size_append, anyB_size]; show n + 1 ≤ _; omega
  have H1 := Lib.hid (fun w1 => glob_any (anyB n) s w1 hz (by omega))
  have H2 := Lib.hid (fun w1 => glob_any (⟨#[42]⟩ ++ anyB n) s w1 hz2 (by omega))
  have H3 := Lib.hid (fun w1 => glob_any (anyB n ++ ⟨#[42]⟩) s w1 hz3 (by omega))
  rw [counts_1] at H1
  rw [counts_2] at H2
  rw [counts_3] at H3
  have Hl := Lib.hid (show s.data.toList.take s.size = s.data.toList by rw [← ba_len, List.take_length])
  have hq4 : (⟨#[63]⟩ : ByteArray).size = 1 := rfl
  have hq5 : (⟨#[42]⟩ : ByteArray).size = 1 := rfl
  have hd1 : ((n : Int) == (s.size : Int)) = decide (n = s.size) := by rw [Bool.eq_iff_iff]; simp; omega
  clear hz hz2 hz3
  go_enter Try.func6, Try.ntmps6
  go_wp2_with fail
  refine HA.out.mono ?_
  rintro e w1 ⟨rfl, hB⟩
  go_wp2_with fail
  go_loop [5, 6] (fun p i => ∃ k : Nat, k ≤ n ∧ i = .int .i64 k ∧ p = .string (anyB k)) (fun _ i => n - (intOf i).toNat)
  case atStart => exact ⟨0, Nat.zero_le _, rfl, rfl⟩
  case round =>
    obtain ⟨k, hk, rfl, rfl⟩ := hrel
    by_cases hlt : k < n
    · have hx := Lib.hid (anyB_next k)
      have hqs : (anyB k).size ≤ 200 := by rw [anyB_size]; omega
      generalize anyB k = q at *
      go_wp2_with fail
      exact ⟨⟨k + 1, by omega, by go_num, by rw [hx.out]⟩, by simp [intOf]; omega⟩
    · obtain rfl : k = n := by omega
      have hqs : (anyB k).size ≤ 200 := by rw [anyB_size]; omega
      generalize anyB k = q at *
      go_wp2_with fail
      go_loop [7, 8] (fun sl i => ∃ j : Nat, j ≤ s.size ∧ i = .int .i64 j ∧ sl = .bool (!noSl (s.data.toList.take j))) (fun _ i => s.size - (intOf i).toNat)
      case atStart => exact ⟨0, Nat.zero_le _, rfl, by simp [noSl]⟩
      case round =>
        obtain ⟨j, hj, rfl, rfl⟩ := hrel
        by_cases hlt2 : j < s.size
        · have hn2 := Lib.hid (noSl_take s j hlt2)
          generalize noSl (s.data.toList.take j) = b at *
          obtain ⟨c, hc⟩ : ∃ c, c = s[j] := ⟨_, rfl⟩
          have hc2 := hc.symm
          rw [← hc] at hn2
          clear hc
          by_cases h47 : c = 47
          · have hd : ((c.toNat : Int) == 47) = true := by rw [h47]; rfl
            have Hc := Lib.hid h47
            clear h47
            cases b
            all_goals
              go_wp2_with fail
              exact ⟨⟨j + 1, by omega, by go_num, by rw [hn2.out, Hc.out]; rfl⟩, by simp [intOf]; omega⟩
          · have hd : ((c.toNat : Int) == (47 : Int)) = false := u8_ne (n := 47) (by omega) h47
            have Hc := Lib.hid h47
            clear h47
            cases b
            all_goals
              go_wp2_with fail
              exact ⟨⟨j + 1, by omega, by go_num, by rw [hn2.out, decide_eq_true Hc.out]; rfl⟩, by simp [intOf]; omega⟩
        · obtain rfl : j = s.size := by omega
          rw [Hl.out]
          generalize noSl s.data.toList = b at *
          obtain ⟨x1, hx1⟩ : ∃ x, decide (k = s.size) = x := ⟨_, rfl⟩
          obtain ⟨x2, hx2⟩ : ∃ x, decide (k ≤ s.size) = x := ⟨_, rfl⟩
          have hx3 : decide ((k : Int) ≤ (s.size : Int)) = x2 := by rw [← hx2, Bool.eq_iff_iff]; simp
          rw [hx1] at hd1 H1
          rw [hx2] at H2 H3
          clear hx1
          cases b <;> cases x1 <;> cases x2
          all_goals
            go_wp2_with fail
            refine (H1.out _).mono ?_
            rintro e w2 ⟨rfl, hB2⟩
            replace hB := hB.trans (hB2.mono hB.size)
            clear hB2
            go_wp2_with fail
            refine (H2.out _).mono ?_
            rintro e w2 ⟨rfl, hB2⟩
            replace hB := hB.trans (hB2.mono hB.size)
            clear hB2
            go_wp2_with fail
            refine (H3.out _).mono ?_
            rintro e w2 ⟨rfl, hB2⟩
            replace hB := hB.trans (hB2.mono hB.size)
            clear hB2
            go_wp2_with fail
            go_ret
            exact ⟨rfl, hB⟩
theorem counts_walk (s : ByteArray) (n : Int) (w : World) (hs : s.size ≤ 140737488351232) : Calls Try.prog 6 #[.string s, .int .i64 n] w (LawEnd w) := by
  by_cases h : s.size ≤ 200 ∧ 0 ≤ n ∧ n ≤ 200
  · obtain ⟨k, rfl⟩ : ∃ k : Nat, n = k := ⟨n.toNat, by omega⟩
    exact counts_some s k w h.1 (by omega)
  · have HA := Lib.hid (alive_any w)
    by_cases h1 : s.size ≤ 200
    · have h1I : (s.size : Int) ≤ 200 := by omega
      by_cases h2 : 0 ≤ n
      · have h3 : ¬ n ≤ 200 := by omega
        clear h
        go_enter Try.func6, Try.ntmps6
        go_wp2_with fail
        refine HA.out.mono ?_
        rintro e w1 ⟨rfl, hB⟩
        go_wp2_with fail
        go_ret
        exact ⟨rfl, hB⟩
      · clear h
        go_enter Try.func6, Try.ntmps6
        go_wp2_with fail
        refine HA.out.mono ?_
        rintro e w1 ⟨rfl, hB⟩
        go_wp2_with fail
        go_ret
        exact ⟨rfl, hB⟩
    · have h1I : ¬ (s.size : Int) ≤ 200 := by omega
      clear h
      go_enter Try.func6, Try.ntmps6
      go_wp2_with fail
      refine HA.out.mono ?_
      rintro e w1 ⟨rfl, hB⟩
      go_wp2_with fail
      go_ret
      exact ⟨rfl, hB⟩
end Go.Proofs.Ytaaggfccbbimbaa
