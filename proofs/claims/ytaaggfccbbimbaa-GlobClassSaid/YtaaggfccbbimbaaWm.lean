/- Walks: the statement GlobLong. -/
import Derived.Test.YtaaggfccbbimbaaWi
import Derived.Laws.BytesArg
namespace Go.Proofs.Ytaaggfccbbimbaa
set_option linter.unusedVariables false
set_option linter.unusedSimpArgs false
open Go.ChangeShapes Go.WideShapes Go.ChangeAt Go.RowKit

theorem nums_of (l : List UInt8) : strOfNums (l.map fun b => (b.toNat : Int)) = mkB l := by
  apply ba_ext
  rw [strOfNums_data, mkB_toList, List.map_map]
  simp [Function.comp_def]
theorem conv_block {w : World} {B : Nat} {l : List UInt8} {t : TypeId} (h : w.heap[B]? = some (.cells (l.map fun b => Value.int .u8 b.toNat).toArray t (0, 0))) (hl : l.length ≤ 1048576) : (convert 28 9 (.slice (some ⟨B, 0, none⟩) l.length l.length)).run Try.prog w = .ok (.string (mkB l)) w := by
  rw [← nums_of]
  exact run_convert_bytes_arg _ 28 5 Try.underlying28 Try.underlying5 B 0 _ _ _ (by rw [List.length_map]) (fun i hi => by
    rw [block_cell h]; simp [List.getD, hi]) 9 Try.underlying9
def starB (n : Nat) : ByteArray := mkB (starsL n)
theorem starsL_len (n : Nat) : (starsL n).length = 2 * n := by
  induction n with
  | zero => rfl
  | succ n ih => show (starsL n).length + 1 + 1 = _; omega
theorem starB_size (n : Nat) : (starB n).size = 2 * n := by unfold starB; rw [mkB_size, starsL_len]
theorem starB_next (n : Nat) : starB n ++ ⟨#[42, 97]⟩ = starB (n + 1) := by
  apply ba_ext; rw [ba_append]; exact starsL_snoc n
def asB (n : Nat) : ByteArray := mkB (List.replicate n 97)
theorem asB_size (n : Nat) : (asB n).size = n := by simp [asB, mkB_size]
theorem asB_next (n : Nat) : asB n ++ ⟨#[97]⟩ = asB (n + 1) := by
  apply ba_ext; rw [ba_append]; show List.replicate n 97 ++ [97] = _; rw [← List.replicate_succ']; rfl
theorem long_is (k n : Nat) (c : UInt8) (h1 : c ≠ 92) (h2 : c ≠ 42) (h3 : c ≠ 63) (h4 : c ≠ 91) : globB (starB k ++ mkB [c]) (asB n ++ mkB [c]) = (decide ((k = 0 ∧ n = 0) ∨ (0 < k ∧ k ≤ n)), 0) := by
  have e1 : (starB k ++ mkB [c]).data.toList = starsL k ++ [c] := by rw [ba_append]; rfl
  have e2 : (asB n ++ mkB [c]).data.toList = List.replicate n 97 ++ [c] := by rw [ba_append]; rfl
  unfold globB
  rw [e1, e2]
  have hp : parseL [c] = some [litP c] := by rw [parse_step (piece_one h1 h2 h3 h4 [])]; rfl
  rw [globR_some (parse_app _ _ [c] _ _ (Nat.le_refl _) (parse_stars k) hp), matB_eq _ _ (decide ((k = 0 ∧ n = 0) ∨ (0 < k ∧ k ≤ n)))]
  rw [long_mat, decide_eq_true_iff]
set_option maxHeartbeats 1000000 in
theorem long_some (k n : Nat) (c : UInt8) (w : World) (hk : k ≤ 60) (hn : n ≤ 512) (h1 : c ≠ 92) (h2 : c ≠ 42) (h3 : c ≠ 63) (h4 : c ≠ 91) (h5 : c ≠ 47) : Calls Try.prog 5 #[.int .i64 k, .int .i64 n, .int .u8 c.toNat] w (LawEnd w) := by
  have HA := Lib.hid (alive_any w)
  have i1 : (0 : Int) ≤ (k : Int) := by omega
  have i2 : (k : Int) ≤ 60 := by omega
  have i3 : (0 : Int) ≤ (n : Int) := by omega
  have i4 : (n : Int) ≤ 512 := by omega
  have d1 : ((c.toNat : Int) == (92 : Int)) = false := u8_ne (n := 92) (by omega) h1
  have d2 : ((c.toNat : Int) == (42 : Int)) = false := u8_ne (n := 42) (by omega) h2
  have d3 : ((c.toNat : Int) == (63 : Int)) = false := u8_ne (n := 63) (by omega) h3
  have d4 : ((c.toNat : Int) == (91 : Int)) = false := u8_ne (n := 91) (by omega) h4
  have d5 : ((c.toNat : Int) == (47 : Int)) = false := u8_ne (n := 47) (by omega) h5
  have H1 := Lib.hid (fun w1 => glob_any (starB k ++ mkB [c]) (asB n ++ mkB [c]) w1 (by rw [ByteArray.size_append, starB_size, mkB_size]; show 2 * k + 1 ≤ _; omega) (by rw [ByteArray.size_append, asB_size, mkB_size]; show n + 1 ≤ _; omega))
  rw [long_is k n c h1 h2 h3 h4] at H1
  have hcv := fun w1 => conv_block (heap_alloc_new w1 (.cells #[.int .u8 c.toNat] 5) : (w1.alloc (.cells #[.int .u8 c.toNat] 5)).heap[w1.heap.size]? = some (.cells (([c] : List UInt8).map fun b => Value.int .u8 b.toNat).toArray 5 (0, 0))) (by simp)
  have hcv1 : ∀ w1 : World, (convert 28 9 (.slice (some ⟨w1.heap.size, 0, none⟩) 1 1)).run Try.prog (w1.alloc (.cells #[.int .u8 c.toNat] 5)) = .ok (.string (mkB [c])) (w1.alloc (.cells #[.int .u8 c.toNat] 5)) := hcv
  have hcz : (mkB [c]).size = 1 := rfl
  have hq1 : (⟨#[42, 97]⟩ : ByteArray).size = 2 := rfl
  have hq2 : (⟨#[97]⟩ : ByteArray).size = 1 := rfl
  clear h1 h2 h3 h4 h5 hcv
  go_enter Try.func5, Try.ntmps5
  go_wp2_with fail
  refine HA.out.mono ?_
  rintro e w1 ⟨rfl, hB⟩
  go_wp2_with fail
  go_loop [7, 9] (fun p i => ∃ j : Nat, j ≤ k ∧ i = .int .i64 j ∧ p = .string (starB j)) (fun _ i => k - (intOf i).toNat)
  case atStart => exact ⟨0, Nat.zero_le _, rfl, rfl⟩
  case round =>
    obtain ⟨j, hj, rfl, rfl⟩ := hrel
    by_cases hlt : j < k
    · have hx := Lib.hid (starB_next j)
      have hqs : (starB j).size ≤ 200 := by rw [starB_size]; omega
      generalize starB j = q at *
      go_wp2_with fail
      exact ⟨⟨j + 1, by omega, by go_num, by rw [hx.out]⟩, by simp [intOf]; omega⟩
    · obtain rfl : j = k := by omega
      have hqs : (starB j).size ≤ 200 := by rw [starB_size]; omega
      generalize starB j = q at *
      go_wp2_with fail
      go_loop [8, 10] (fun p i => ∃ m : Nat, m ≤ n ∧ i = .int .i64 m ∧ p = .string (asB m)) (fun _ i => n - (intOf i).toNat)
      case atStart => exact ⟨0, Nat.zero_le _, rfl, rfl⟩
      case round =>
        obtain ⟨m, hm, rfl, rfl⟩ := hrel
        by_cases hlt2 : m < n
        · have hx := Lib.hid (asB_next m)
          have hqs2 : (asB m).size ≤ 1000 := by rw [asB_size]; omega
          generalize asB m = q2 at *
          go_wp2_with fail
          exact ⟨⟨m + 1, by omega, by go_num, by rw [hx.out]⟩, by simp [intOf]; omega⟩
        · obtain rfl : m = n := by omega
          have hqs2 : (asB m).size ≤ 1000 := by rw [asB_size]; omega
          generalize asB m = q2 at *
          have hcv2 := hcv1 w1
          have HB := Lib.hid (hB.alloc hB.size (.cells #[.int .u8 c.toNat] 5))
          clear hcv1 hB
          generalize mkB [c] = q3 at *
          obtain ⟨x, hx⟩ : ∃ x, x = decide ((j = 0 ∧ m = 0) ∨ (0 < j ∧ j ≤ m)) := ⟨_, rfl⟩
          rw [← hx] at H1
          have Hx := Lib.hid hx
          clear hx
          by_cases ca : c = 97
          · have d6 : ((c.toNat : Int) == 97) = true := by rw [ca]; rfl
            clear ca
            go_wp2_with fail
            refine (H1.out _).mono ?_
            rintro e w2 ⟨rfl, hB2⟩
            have hB3 := HB.out.trans (hB2.mono HB.out.size)
            clear hB2
            by_cases j0 : j = 0
            · have hj0 : ((j : Int) == 0) = true := by rw [j0]; rfl
              have hj1 : decide ((0 : Int) < (j : Int)) = false := by rw [j0]; rfl
              have hj3 : decide (0 < j) = false := by rw [j0]; rfl
              have hj4 : ¬ 0 < j := by omega
              by_cases m0 : m = 0
              · have hm0 : ((m : Int) == 0) = true := by rw [m0]; rfl
                have hx : x = true := by rw [Hx.out, decide_eq_true_iff]; left; exact ⟨j0, m0⟩
                clear j0 m0
                subst hx
                go_wp2_with fail
                go_ret
                exact ⟨rfl, hB3⟩
              · have hm0 : ((m : Int) == 0) = false := by rw [beq_eq_false_iff_ne]; omega
                have hx : x = false := by rw [Hx.out, decide_eq_false_iff_not]; omega
                clear j0 m0
                subst hx
                go_wp2_with fail
                go_ret
                exact ⟨rfl, hB3⟩
            · have hj0 : ((j : Int) == 0) = false := by rw [beq_eq_false_iff_ne]; omega
              have hj1 : decide ((0 : Int) < (j : Int)) = true := by simp; omega
              have hj2 : 0 < j := by omega
              by_cases jm : j ≤ m
              · have hm0 : decide ((j : Int) ≤ (m : Int)) = true := by simp; omega
                have hx : x = true := by rw [Hx.out, decide_eq_true_iff]; right; omega
                clear j0
                subst hx
                go_wp2_with fail
                go_ret
                exact ⟨rfl, hB3⟩
              · have hm0 : decide ((j : Int) ≤ (m : Int)) = false := by simp; omega
                have hm1 : decide (j ≤ m) = false := by simp; omega
                have hx : x = false := by rw [Hx.out, decide_eq_false_iff_not]; omega
                clear j0
                subst hx
                go_wp2_with fail
                go_ret
                exact ⟨rfl, hB3⟩
          · have d6 : ((c.toNat : Int) == (97 : Int)) = false := u8_ne (n := 97) (by omega) ca
            clear ca
            go_wp2_with fail
            refine (H1.out _).mono ?_
            rintro e w2 ⟨rfl, hB2⟩
            have hB3 := HB.out.trans (hB2.mono HB.out.size)
            clear hB2
            by_cases j0 : j = 0
            · have hj0 : ((j : Int) == 0) = true := by rw [j0]; rfl
              have hj1 : decide ((0 : Int) < (j : Int)) = false := by rw [j0]; rfl
              have hj3 : decide (0 < j) = false := by rw [j0]; rfl
              have hj4 : ¬ 0 < j := by omega
              by_cases m0 : m = 0
              · have hm0 : ((m : Int) == 0) = true := by rw [m0]; rfl
                have hx : x = true := by rw [Hx.out, decide_eq_true_iff]; left; exact ⟨j0, m0⟩
                clear j0 m0
                subst hx
                go_wp2_with fail
                go_ret
                exact ⟨rfl, hB3⟩
              · have hm0 : ((m : Int) == 0) = false := by rw [beq_eq_false_iff_ne]; omega
                have hx : x = false := by rw [Hx.out, decide_eq_false_iff_not]; omega
                clear j0 m0
                subst hx
                go_wp2_with fail
                go_ret
                exact ⟨rfl, hB3⟩
            · have hj0 : ((j : Int) == 0) = false := by rw [beq_eq_false_iff_ne]; omega
              have hj1 : decide ((0 : Int) < (j : Int)) = true := by simp; omega
              have hj2 : 0 < j := by omega
              by_cases jm : j ≤ m
              · have hm0 : decide ((j : Int) ≤ (m : Int)) = true := by simp; omega
                have hx : x = true := by rw [Hx.out, decide_eq_true_iff]; right; omega
                clear j0
                subst hx
                go_wp2_with fail
                go_ret
                exact ⟨rfl, hB3⟩
              · have hm0 : decide ((j : Int) ≤ (m : Int)) = false := by simp; omega
                have hm1 : decide (j ≤ m) = false := by simp; omega
                have hx : x = false := by rw [Hx.out, decide_eq_false_iff_not]; omega
                clear j0
                subst hx
                go_wp2_with fail
                go_ret
                exact ⟨rfl, hB3⟩
theorem wf_u8 {n : Int} (h : (Lit.int .u8 n).wf = true) : 0 ≤ n ∧ n ≤ 255 := by
  simpa [Lit.wf, IntKind.min, IntKind.max, IntKind.bits, IntKind.signed] using h
set_option maxHeartbeats 4000000 in
theorem long_walk (a b c : Int) (w : World) (hc : (Lit.int .u8 c).wf = true) : Calls Try.prog 5 #[.int .i64 a, .int .i64 b, .int .u8 c] w (LawEnd w) := by
  have hc2 : 0 ≤ c ∧ c ≤ 255 := wf_u8 hc
  obtain ⟨d, rfl⟩ : ∃ d : UInt8, c = (d.toNat : Int) := ⟨UInt8.ofNat c.toNat, by rw [UInt8.toNat_ofNat', Nat.mod_eq_of_lt (by omega)]; omega⟩
  have HA := Lib.hid (alive_any w)
  clear hc hc2
  by_cases g0 : a < 0
  · have f0 : ¬ (0 : Int) ≤ a := by omega
    clear g0
    go_enter Try.func5, Try.ntmps5
    go_wp2_with fail
    refine HA.out.mono ?_
    rintro e w1 ⟨rfl, hB⟩
    go_wp2_with fail
    go_ret
    exact ⟨rfl, hB⟩
  have f0 : (0 : Int) ≤ a := by omega
  clear g0
  by_cases g1 : 60 < a
  · have f1 : ¬ a ≤ 60 := by omega
    clear g1
    go_enter Try.func5, Try.ntmps5
    go_wp2_with fail
    refine HA.out.mono ?_
    rintro e w1 ⟨rfl, hB⟩
    go_wp2_with fail
    go_ret
    exact ⟨rfl, hB⟩
  have f1 : a ≤ 60 := by omega
  clear g1
  by_cases g2 : b < 0
  · have f2 : ¬ (0 : Int) ≤ b := by omega
    clear g2
    go_enter Try.func5, Try.ntmps5
    go_wp2_with fail
    refine HA.out.mono ?_
    rintro e w1 ⟨rfl, hB⟩
    go_wp2_with fail
    go_ret
    exact ⟨rfl, hB⟩
  have f2 : (0 : Int) ≤ b := by omega
  clear g2
  by_cases g3 : 512 < b
  · have f3 : ¬ b ≤ 512 := by omega
    clear g3
    go_enter Try.func5, Try.ntmps5
    go_wp2_with fail
    refine HA.out.mono ?_
    rintro e w1 ⟨rfl, hB⟩
    go_wp2_with fail
    go_ret
    exact ⟨rfl, hB⟩
  have f3 : b ≤ 512 := by omega
  clear g3
  by_cases k92 : d = 92
  · have e92 : ((d.toNat : Int) == (92 : Int)) = true := by rw [k92]; rfl
    clear k92
    go_enter Try.func5, Try.ntmps5
    go_wp2_with fail
    refine HA.out.mono ?_
    rintro e w1 ⟨rfl, hB⟩
    go_wp2_with fail
    go_ret
    exact ⟨rfl, hB⟩
  have e92 : ((d.toNat : Int) == (92 : Int)) = false := u8_ne (n := 92) (by omega) k92
  by_cases k42 : d = 42
  · have e42 : ((d.toNat : Int) == (42 : Int)) = true := by rw [k42]; rfl
    clear k42
    go_enter Try.func5, Try.ntmps5
    go_wp2_with fail
    refine HA.out.mono ?_
    rintro e w1 ⟨rfl, hB⟩
    go_wp2_with fail
    go_ret
    exact ⟨rfl, hB⟩
  have e42 : ((d.toNat : Int) == (42 : Int)) = false := u8_ne (n := 42) (by omega) k42
  by_cases k63 : d = 63
  · have e63 : ((d.toNat : Int) == (63 : Int)) = true := by rw [k63]; rfl
    clear k63
    go_enter Try.func5, Try.ntmps5
    go_wp2_with fail
    refine HA.out.mono ?_
    rintro e w1 ⟨rfl, hB⟩
    go_wp2_with fail
    go_ret
    exact ⟨rfl, hB⟩
  have e63 : ((d.toNat : Int) == (63 : Int)) = false := u8_ne (n := 63) (by omega) k63
  by_cases k91 : d = 91
  · have e91 : ((d.toNat : Int) == (91 : Int)) = true := by rw [k91]; rfl
    clear k91
    go_enter Try.func5, Try.ntmps5
    go_wp2_with fail
    refine HA.out.mono ?_
    rintro e w1 ⟨rfl, hB⟩
    go_wp2_with fail
    go_ret
    exact ⟨rfl, hB⟩
  have e91 : ((d.toNat : Int) == (91 : Int)) = false := u8_ne (n := 91) (by omega) k91
  by_cases k47 : d = 47
  · have e47 : ((d.toNat : Int) == (47 : Int)) = true := by rw [k47]; rfl
    clear k47
    go_enter Try.func5, Try.ntmps5
    go_wp2_with fail
    refine HA.out.mono ?_
    rintro e w1 ⟨rfl, hB⟩
    go_wp2_with fail
    go_ret
    exact ⟨rfl, hB⟩
  have e47 : ((d.toNat : Int) == (47 : Int)) = false := u8_ne (n := 47) (by omega) k47
  obtain ⟨k, rfl⟩ : ∃ k : Nat, a = k := ⟨a.toNat, by omega⟩
  obtain ⟨n, rfl⟩ : ∃ n : Nat, b = n := ⟨b.toNat, by omega⟩
  exact long_some k n d w (by omega) (by omega) k92 k42 k63 k91 k47
end Go.Proofs.Ytaaggfccbbimbaa
