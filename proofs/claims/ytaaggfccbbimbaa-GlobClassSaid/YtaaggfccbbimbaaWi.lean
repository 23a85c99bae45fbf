/- Walks: the statements GlobQuotes, GlobJoins, GlobClass. -/
import Derived.Test.YtaaggfccbbimbaaWh
import Derived.Test.YtaaggfccbbimbaaMc
namespace Go.Proofs.Ytaaggfccbbimbaa
set_option linter.unusedVariables false
set_option linter.unusedSimpArgs false
open Go.ChangeShapes Go.WideShapes Go.ChangeAt Go.RowKit

theorem globR_some {p s : List UInt8} {ps : List Pc} (h : parseL p = some ps) : globR p s = (matB ps s, 0) := by
  unfold globR; have : parseG p.length p = some ps := h; rw [this]
theorem globR_none {p s : List UInt8} (h : parseL p = none) : globR p s = (false, 4) := by
  unfold globR; have : parseG p.length p = none := h; rw [this]
theorem quoted_len (l : List UInt8) : (quoted l).length = 2 * l.length := by
  induction l with
  | nil => rfl
  | cons c r ih => show (92 :: c :: quoted r).length = _; simp; omega
theorem quoted_next (s : ByteArray) (k : Nat) (h : k < s.size) : mkB (quoted (s.data.toList.take k)) ++ ⟨#[92]⟩ ++ s.extract k (k + 1) = mkB (quoted (s.data.toList.take (k + 1))) := by
  apply ba_ext
  have hk : k < s.data.toList.length := by rw [ba_len]; exact h
  rw [ba_append, ba_append, mkB_toList, mkB_toList, Lib.extract_data, List.take_succ_eq_append_getElem hk]
  have e : (s.data.toList.drop k).take (k + 1 - k) = [s.data.toList[k]] := by
    rw [List.drop_eq_getElem_cons hk, show k + 1 - k = 1 by omega]; rfl
  rw [e]
  unfold quoted
  rw [List.flatMap_append, List.append_assoc]; rfl
theorem eq_toList {x y : ByteArray} : (x.toList == y.toList) = decide (x = y) := by
  by_cases h : x = y
  · rw [decide_eq_true h, h]; simp
  · rw [decide_eq_false h, beq_eq_false_iff_ne, Lib.toList_data, Lib.toList_data]
    intro e; exact h (ba_ext e)

theorem quotes_great (s t : ByteArray) (w : World) (h : 512 < s.size ∨ 512 < t.size) (hs : s.size ≤ 140737488351232) (ht : t.size ≤ 140737488351232) : Calls Try.prog 3 #[.string s, .string t] w (LawEnd w) := by
  have HA := Lib.hid (alive_any w)
  by_cases h1 : 512 < s.size
  · have h1I : (512 : Int) < (s.size : Int) := by omega
    clear h
    go_enter Try.func3, Try.ntmps3
    go_wp2_with fail
    refine HA.out.mono ?_
    rintro e w1 ⟨rfl, hB⟩
    go_wp2_with fail
    go_ret
    exact ⟨rfl, hB⟩
  · have h1I : ¬ (512 : Int) < (s.size : Int) := by omega
    have h2I : (512 : Int) < (t.size : Int) := by omega
    clear h
    go_enter Try.func3, Try.ntmps3
    go_wp2_with fail
    refine HA.out.mono ?_
    rintro e w1 ⟨rfl, hB⟩
    go_wp2_with fail
    go_ret
    exact ⟨rfl, hB⟩
set_option maxHeartbeats 1000000 in
theorem quotes_walk (s t : ByteArray) (w : World) (hs : s.size ≤ 140737488351232) (ht : t.size ≤ 140737488351232) : Calls Try.prog 3 #[.string s, .string t] w (LawEnd w) := by
  by_cases h : 512 < s.size ∨ 512 < t.size
  · exact quotes_great s t w h hs ht
  have HA := Lib.hid (alive_any w)
  have h1 : ¬ (512 : Int) < (s.size : Int) := by omega
  have h2 : ¬ (512 : Int) < (t.size : Int) := by omega
  have hq : (mkB (quoted s.data.toList)).size ≤ 1048576 := by rw [mkB_size, quoted_len, ba_len]; omega
  have H1 := Lib.hid (fun w1 => glob_any (mkB (quoted s.data.toList)) s w1 hq (by omega))
  have H2 := Lib.hid (fun w1 => glob_any (mkB (quoted s.data.toList)) t w1 hq (by omega))
  have e1 : globB (mkB (quoted s.data.toList)) s = (true, 0) := by
    show globR (quoted s.data.toList) s.data.toList = _
    rw [globR_some (parse_quoted _), matB_eq _ _ true (by rw [mat_lits]; simp)]
  have e2 : globB (mkB (quoted s.data.toList)) t = (decide (s = t), 0) := by
    show globR (quoted s.data.toList) t.data.toList = _
    rw [globR_some (parse_quoted _), matB_eq _ _ (decide (s = t)) (by
      rw [mat_lits, decide_eq_true_iff]
      exact ⟨fun h => (ba_ext h).symm, fun h => by rw [h]⟩)]
  rw [e1] at H1
  rw [e2] at H2
  have Hn := Lib.hid (fun k (hk : k < s.size) => quoted_next s k hk)
  have Hl := Lib.hid (show s.data.toList.take s.size = s.data.toList by rw [← ba_len, List.take_length])
  have heq : (s.toList == t.toList) = decide (s = t) := eq_toList
  clear hq e1 e2 h
  generalize decide (s = t) = b at *
  go_enter Try.func3, Try.ntmps3
  go_wp2_with fail
  refine HA.out.mono ?_
  rintro e w1 ⟨rfl, hB⟩
  go_wp2_with fail
  go_loop [5, 6] (fun p i => ∃ k : Nat, k ≤ s.size ∧ i = .int .i64 k ∧ p = .string (mkB (quoted (s.data.toList.take k)))) (fun _ i => s.size - (intOf i).toNat)
  case atStart => exact ⟨0, Nat.zero_le _, rfl, rfl⟩
  case round =>
    obtain ⟨k, hk, rfl, rfl⟩ := hrel
    by_cases hlt : k < s.size
    · have hx := Lib.hid (Hn.out k hlt)
      have hqs : (mkB (quoted (s.data.toList.take k))).size ≤ 1024 := by rw [mkB_size, quoted_len, List.length_take]; omega
      generalize mkB (quoted (s.data.toList.take k)) = q at *
      have hq2 : (q ++ ⟨#[92]⟩).size ≤ 1025 := by rw [ByteArray.size_append]; show q.size + 1 ≤ 1025; omega
      have hq3 : (s.extract k (k + 1)).size ≤ 512 := by rw [ByteArray.size_extract]; omega
      have hq4 : (⟨#[92]⟩ : ByteArray).size = 1 := rfl
      have hp1 : (0 : Int) ≤ (k : Int) + 1 := by omega
      have hp2 : (k : Int) ≤ (k : Int) + 1 := by omega
      have hp3 : (k : Int) + 1 ≤ (s.size : Int) := by omega
      have ht1 : ((k : Int) + 1).toNat = k + 1 := by omega
      go_wp2_with fail
      exact ⟨⟨k + 1, by omega, by go_num, by rw [hx.out]⟩, by simp [intOf]; omega⟩
    · obtain rfl : k = s.size := by omega
      rw [Hl.out]
      generalize mkB (quoted s.data.toList) = q at *
      cases b
      all_goals
        go_wp2_with fail
        refine (H1.out _).mono ?_
        rintro e w2 ⟨rfl, hB2⟩
        replace hB := hB.trans (hB2.mono hB.size)
        clear hB2
        go_wp2_with fail
        refine (H2.out _).mono ?_
        rintro e w3 ⟨rfl, hB2⟩
        replace hB := hB.trans (hB2.mono hB.size)
        clear hB2
        go_wp2_with fail
        go_ret
        exact ⟨rfl, hB⟩
end Go.Proofs.Ytaaggfccbbimbaa
