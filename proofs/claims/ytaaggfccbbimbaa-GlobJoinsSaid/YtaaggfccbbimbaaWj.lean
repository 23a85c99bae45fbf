/- Walks: the statement GlobJoins. -/
import Derived.Test.YtaaggfccbbimbaaWi
namespace Go.Proofs.Ytaaggfccbbimbaa
set_option linter.unusedVariables false
set_option linter.unusedSimpArgs false
open Go.ChangeShapes Go.WideShapes Go.ChangeAt Go.RowKit

theorem joins_fact (a b x y : List UInt8) (h1 : globR a x = (true, 0)) (h2 : globR b y = (true, 0)) : globR (a ++ b) (x ++ y) = (true, 0) := by
  cases ha : parseL a with
  | none => rw [globR_none ha] at h1; cases h1
  | some ps =>
    cases hb : parseL b with
    | none => rw [globR_none hb] at h2; cases h2
    | some qs =>
      rw [globR_some ha] at h1
      rw [globR_some hb] at h2
      rw [globR_some (parse_app _ a b ps qs (Nat.le_refl _) ha hb), matB_eq _ _ true]
      rw [mat_app]
      simp only [Prod.mk.injEq] at h1 h2
      exact ⟨fun _ => rfl, fun _ => ⟨x, y, rfl, (matB_iff _ _).1 h1.1, (matB_iff _ _).1 h2.1⟩⟩
theorem noSl_take (s : ByteArray) (k : Nat) (h : k < s.size) : noSl (s.data.toList.take (k + 1)) = (noSl (s.data.toList.take k) && decide (s[k] ≠ 47)) := by
  have hk : k < s.data.toList.length := by rw [ba_len]; exact h
  rw [List.take_succ_eq_append_getElem hk, noSl_app]
  congr 1
  unfold noSl; simp; rfl
set_option maxHeartbeats 1000000 in
theorem joins_some (a b x y : ByteArray) (w : World) (ha : a.size ≤ 100) (hb : b.size ≤ 100) (hx : x.size ≤ 100) (hy : y.size ≤ 100) : Calls Try.prog 4 #[.string a, .string b, .string x, .string y] w (LawEnd w) := by
  have HA := Lib.hid (alive_any w)
  have h1 : (a.size : Int) ≤ 100 := by omega
  have h2 : (b.size : Int) ≤ 100 := by omega
  have h3 : (x.size : Int) ≤ 100 := by omega
  have h4 : (y.size : Int) ≤ 100 := by omega
  have hz1 : (a ++ b).size ≤ 200 := by rw [ByteArray.size_append]; omega
  have hz2 : (x ++ y).size ≤ 200 := by rw [ByteArray.size_append]; omega
  have H1 := Lib.hid (fun w1 => glob_any a x w1 (by omega) (by omega))
  have H2 := Lib.hid (fun w1 => glob_any b y w1 (by omega) (by omega))
  have H3 := Lib.hid (fun w1 => glob_any (a ++ b) (x ++ y) w1 (by omega) (by omega))
  have H4 := Lib.hid (fun w1 => glob_any ⟨#[42]⟩ x w1 (by decide) (by omega))
  have hj : globB a x = (true, 0) → globB b y = (true, 0) → globB (a ++ b) (x ++ y) = (true, 0) := by
    intro e1 e2
    show globR (a ++ b).data.toList (x ++ y).data.toList = _
    rw [ba_append, ba_append]; exact joins_fact _ _ _ _ e1 e2
  have e4 : globB ⟨#[42]⟩ x = (noSl x.data.toList, 0) := by
    show globR [42] x.data.toList = _
    rw [globR_some parse_star, mat_starB]
  rw [e4] at H4
  generalize globB a x = r1 at *
  generalize globB b y = r2 at *
  generalize globB (a ++ b) (x ++ y) = r3 at *
  obtain ⟨x1, c1⟩ := r1
  obtain ⟨x2, c2⟩ := r2
  obtain ⟨x3, c3⟩ := r3
  have Hj := Lib.hid hj
  have Hl := Lib.hid (show x.data.toList.take x.size = x.data.toList by rw [← ba_len, List.take_length])
  clear hj e4
  go_enter Try.func4, Try.ntmps4
  go_wp2_with fail
  refine HA.out.mono ?_
  rintro e w1 ⟨rfl, hB⟩
  go_wp2_with fail
  refine (H1.out _).mono ?_
  rintro e w2 ⟨rfl, hB2⟩
  replace hB := hB.trans (hB2.mono hB.size)
  clear hB2
  go_wp2_with fail
  refine (H2.out _).mono ?_
  rintro e w3 ⟨rfl, hB2⟩
  replace hB := hB.trans (hB2.mono hB.size)
  clear hB2
  go_wp2_with fail
  refine (H3.out _).mono ?_
  rintro e w4 ⟨rfl, hB2⟩
  replace hB := hB.trans (hB2.mono hB.size)
  clear hB2
  go_wp2_with fail
  all_goals try (exfalso; have h9 := Hj.out (by simp_all) (by simp_all); simp_all; done)
  all_goals
    clear Hj
    go_loop [15, 16] (fun sl i => ∃ k : Nat, k ≤ x.size ∧ i = .int .i64 k ∧ sl = .bool (!noSl (x.data.toList.take k))) (fun _ i => x.size - (intOf i).toNat)
    case atStart => exact ⟨0, Nat.zero_le _, rfl, by simp [noSl]⟩
    case round =>
      obtain ⟨k, hk, rfl, rfl⟩ := hrel
      by_cases hlt : k < x.size
      · have hn := Lib.hid (noSl_take x k hlt)
        generalize noSl (x.data.toList.take k) = b at *
        obtain ⟨c, hc⟩ : ∃ c, c = x[k] := ⟨_, rfl⟩
        have hc2 := hc.symm
        rw [← hc] at hn
        clear hc
        by_cases h47 : c = 47
        · have hd : ((c.toNat : Int) == 47) = true := by rw [h47]; rfl
          have Hc := Lib.hid h47
          clear h47
          cases b
          all_goals
            go_wp2_with fail
            exact ⟨⟨k + 1, by omega, by go_num, by rw [hn.out, Hc.out]; rfl⟩, by simp [intOf]; omega⟩
        · have hd : ((c.toNat : Int) == (47 : Int)) = false := u8_ne (n := 47) (by omega) h47
          have Hc := Lib.hid h47
          clear h47
          cases b
          all_goals
            go_wp2_with fail
            exact ⟨⟨k + 1, by omega, by go_num, by rw [hn.out, decide_eq_true Hc.out]; rfl⟩, by simp [intOf]; omega⟩
      · obtain rfl : k = x.size := by omega
        rw [Hl.out]
        generalize noSl x.data.toList = b at *
        cases b
        all_goals
          go_wp2_with fail
          refine (H4.out _).mono ?_
          rintro e w5 ⟨rfl, hB2⟩
          replace hB := hB.trans (hB2.mono hB.size)
          clear hB2
          go_wp2_with fail
          go_ret
          exact ⟨rfl, hB⟩
theorem joins_walk (a b x y : ByteArray) (w : World) (ha : a.size ≤ 140737488351232) (hb : b.size ≤ 140737488351232) (hx : x.size ≤ 140737488351232) (hy : y.size ≤ 140737488351232) : Calls Try.prog 4 #[.string a, .string b, .string x, .string y] w (LawEnd w) := by
  by_cases h : a.size ≤ 100 ∧ b.size ≤ 100 ∧ x.size ≤ 100 ∧ y.size ≤ 100
  · exact joins_some a b x y w h.1 h.2.1 h.2.2.1 h.2.2.2
  · have HA := Lib.hid (alive_any w)
    have hg : ¬ ((((a.size : Int) ≤ 100 ∧ (b.size : Int) ≤ 100) ∧ (x.size : Int) ≤ 100) ∧ (y.size : Int) ≤ 100) := by omega
    clear h
    go_enter Try.func4, Try.ntmps4
    go_wp2_with fail
    refine HA.out.mono ?_
    rintro e w1 ⟨rfl, hB⟩
    go_wp2_with fail
    all_goals
      go_ret
      exact ⟨rfl, hB⟩
end Go.Proofs.Ytaaggfccbbimbaa
