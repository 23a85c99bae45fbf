/- Walks: the statement GlobClass. -/
import Derived.Test.YtaaggfccbbimbaaWm
import Derived.Test.YtaaggfccbbimbaaKz
import Derived.BigRegion
import Derived.Deep.CutRange
import Derived.Laws.BytesArg
namespace Go.Proofs.Ytaaggfccbbimbaa
set_option linter.unusedVariables false
set_option linter.unusedSimpArgs false
set_option linter.unnecessarySimpa false
open Go.ChangeShapes Go.WideShapes Go.ChangeAt Go.RowKit

set_option maxRecDepth 100000 in
set_option maxHeartbeats 4000000 in
theorem class_walk (a b c : UInt8) (w : World) : Calls Try.prog 7 #[.int .u8 a.toNat, .int .u8 b.toNat, .int .u8 c.toNat] w (LawEnd w) := by
  have HA := Lib.hid (alive_any w)
  go_enter Try.func7, Try.ntmps7
  go_wp2_with fail
  refine HA.out.mono ?_
  rintro e w1 ⟨rfl, hB⟩
  go_upto_region 3 with fail
  go_cut [7, 8, 9] from 18 to 26 (fun x y z wx => x = .string (mkB [92, a]) ∧ y = .string (mkB [92, b]) ∧ z = .string (mkB [c]) ∧ Below w.heap.size w wx)
  case first =>
    have hRL : ∃ Rs : List (Value → World → Prop), Rs = [PureV (.int .u8 a.toNat),
        NewB 2 #[.int .u8 92, .int .u8 a.toNat] 5,
        PureV (.string (mkB [92, a])),
        PureV (.int .u8 b.toNat),
        NewB 2 #[.int .u8 92, .int .u8 b.toNat] 5,
        PureV (.string (mkB [92, b])),
        PureV (.int .u8 c.toNat),
        NewB 1 #[.int .u8 c.toNat] 5,
        PureV (.string (mkB [c])),
        PureV (.string (mkB [92, a])),
        PureV (.string (mkB [92, b])),
        PureV (.string (mkB [c]))] := ⟨_, rfl⟩
    obtain ⟨Rs, hRs⟩ := hRL
    refine wp_region_rel (RL Rs) [2, 1, 2, 2, 1, 2, 2, 1, 2, 2, 2, 2] [1, 1, 1, 1, 1, 1, 1, 1, 1, 1, 1, 1] [] (by kernel_rfl) (by kernel_rfl) (RL.st1 (by rw [hRs]; exact st1_cons (PureV.st1 _) (st1_cons (NewB.st1 _ _ _) (st1_cons (PureV.st1 _) (st1_cons (PureV.st1 _) (st1_cons (NewB.st1 _ _ _) (st1_cons (PureV.st1 _) (st1_cons (PureV.st1 _) (st1_cons (NewB.st1 _ _ _) (st1_cons (PureV.st1 _) (st1_cons (PureV.st1 _) (st1_cons (PureV.st1 _) (st1_cons (PureV.st1 _) (st1_nil)))))))))))))) (RL.st2 (by rw [hRs]; exact st2_cons (PureV.st2 _ _ _) (st2_skip (st2_cons (PureV.st2 _ _ _) (st2_cons (PureV.st2 _ _ _) (st2_skip (st2_cons (PureV.st2 _ _ _) (st2_cons (PureV.st2 _ _ _) (st2_skip (st2_cons (PureV.st2 _ _ _) (st2_cons (PureV.st2 _ _ _) (st2_cons (PureV.st2 _ _ _) (st2_cons (PureV.st2 _ _ _) (st2_nil)))))))))))))) ?_ ?_ ?_
    · intro i o d hi hd
      have hmem := List.mem_of_getElem? hi
      simp only [List.mem_cons, List.not_mem_nil, or_false] at hmem
      rcases hmem with rfl | rfl | rfl | rfl | rfl | rfl | rfl | rfl | rfl | rfl | rfl | rfl <;> simp at hd <;> (subst hd; simp)
    · refine rel_start (Φ := Hop _ _ _ _ _ _ _) ?_
      refine rel_cons (Φ := Hop _ _ _ _ _ _ _) (k := 0) ?_ ?_
      · intro fa fw hfB hfN hfk hft
        have k0 : fa.eval (.tmp 0) = .int .u8 a.toNat := hft 0 (mem_looks (by kernel_rfl)) (noneed (by kernel_rfl))
        rw [hRs]
        refine hop_plain rfl ?_
        refine out_move rfl ?_
        exact ⟨k0, Below.refl _ _⟩
      refine rel_cons (Φ := Hop _ _ _ _ _ _ _) (k := 1) ?_ ?_
      · intro fa fw hfB hfN hfk hft
        have k18 : fa.eval (.tmp 18) = (.int .u8 a.toNat) := by have := hfk 0 (mem_needs (by kernel_rfl)) _ rfl; rw [hRs] at this; exact this
        rw [hRs]
        refine hop_plain rfl ?_
        have kc : ∀ v, fa.eval (.const v) = v := fun _ => rfl
        generalize fa.eval = ρ at *
        exact out_run (v := .slice (some ⟨fw.heap.size, 0, none⟩) 2 2) (w' := fw.alloc (.cells #[.int .u8 92, .int .u8 a.toNat] 5)) (by simp [execOp, kc, k18, go_sem]) ⟨⟨_, rfl, heap_alloc_new _ _⟩, (Below.refl _ _).alloc (Nat.le_refl _) _⟩
      refine rel_cons (Φ := Hop _ _ _ _ _ _ _) (k := 2) ?_ ?_
      · intro fa fw hfB hfN hfk hft
        have k19 : (NewB 2 #[.int .u8 92, .int .u8 a.toNat] 5) (fa.eval (.tmp 19)) fw := by have := hfk 1 (mem_needs (by kernel_rfl)) _ rfl; rw [hRs] at this; exact this
        rw [hRs]
        refine hop_plain rfl ?_
        obtain ⟨B, hb1, hb2⟩ := k19
        have hcv : (convert 28 9 (.slice (some ⟨B, 0, none⟩) 2 2)).run Try.prog fw = .ok (.string (mkB [92, a])) fw := conv_block (l := [92, a]) (by simpa using hb2) (by simp)
        generalize fa.eval = ρ at *
        exact out_run (v := .string (mkB [92, a])) (w' := fw) (by simp [execOp, hb1, hcv, go_sem]) ⟨rfl, Below.refl _ _⟩
      refine rel_cons (Φ := Hop _ _ _ _ _ _ _) (k := 3) ?_ ?_
      · intro fa fw hfB hfN hfk hft
        have k1 : fa.eval (.tmp 1) = .int .u8 b.toNat := hft 1 (mem_looks (by kernel_rfl)) (noneed (by kernel_rfl))
        rw [hRs]
        refine hop_plain rfl ?_
        refine out_move rfl ?_
        exact ⟨k1, Below.refl _ _⟩
      refine rel_cons (Φ := Hop _ _ _ _ _ _ _) (k := 4) ?_ ?_
      · intro fa fw hfB hfN hfk hft
        have k21 : fa.eval (.tmp 21) = (.int .u8 b.toNat) := by have := hfk 3 (mem_needs (by kernel_rfl)) _ rfl; rw [hRs] at this; exact this
        rw [hRs]
        refine hop_plain rfl ?_
        have kc : ∀ v, fa.eval (.const v) = v := fun _ => rfl
        generalize fa.eval = ρ at *
        exact out_run (v := .slice (some ⟨fw.heap.size, 0, none⟩) 2 2) (w' := fw.alloc (.cells #[.int .u8 92, .int .u8 b.toNat] 5)) (by simp [execOp, kc, k21, go_sem]) ⟨⟨_, rfl, heap_alloc_new _ _⟩, (Below.refl _ _).alloc (Nat.le_refl _) _⟩
      refine rel_cons (Φ := Hop _ _ _ _ _ _ _) (k := 5) ?_ ?_
      · intro fa fw hfB hfN hfk hft
        have k22 : (NewB 2 #[.int .u8 92, .int .u8 b.toNat] 5) (fa.eval (.tmp 22)) fw := by have := hfk 4 (mem_needs (by kernel_rfl)) _ rfl; rw [hRs] at this; exact this
        rw [hRs]
        refine hop_plain rfl ?_
        obtain ⟨B, hb1, hb2⟩ := k22
        have hcv : (convert 28 9 (.slice (some ⟨B, 0, none⟩) 2 2)).run Try.prog fw = .ok (.string (mkB [92, b])) fw := conv_block (l := [92, b]) (by simpa using hb2) (by simp)
        generalize fa.eval = ρ at *
        exact out_run (v := .string (mkB [92, b])) (w' := fw) (by simp [execOp, hb1, hcv, go_sem]) ⟨rfl, Below.refl _ _⟩
      refine rel_cons (Φ := Hop _ _ _ _ _ _ _) (k := 6) ?_ ?_
      · intro fa fw hfB hfN hfk hft
        have k2 : fa.eval (.tmp 2) = .int .u8 c.toNat := hft 2 (mem_looks (by kernel_rfl)) (noneed (by kernel_rfl))
        rw [hRs]
        refine hop_plain rfl ?_
        refine out_move rfl ?_
        exact ⟨k2, Below.refl _ _⟩
      refine rel_cons (Φ := Hop _ _ _ _ _ _ _) (k := 7) ?_ ?_
      · intro fa fw hfB hfN hfk hft
        have k24 : fa.eval (.tmp 24) = (.int .u8 c.toNat) := by have := hfk 6 (mem_needs (by kernel_rfl)) _ rfl; rw [hRs] at this; exact this
        rw [hRs]
        refine hop_plain rfl ?_
        have kc : ∀ v, fa.eval (.const v) = v := fun _ => rfl
        generalize fa.eval = ρ at *
        exact out_run (v := .slice (some ⟨fw.heap.size, 0, none⟩) 1 1) (w' := fw.alloc (.cells #[.int .u8 c.toNat] 5)) (by simp [execOp, kc, k24, go_sem]) ⟨⟨_, rfl, heap_alloc_new _ _⟩, (Below.refl _ _).alloc (Nat.le_refl _) _⟩
      refine rel_cons (Φ := Hop _ _ _ _ _ _ _) (k := 8) ?_ ?_
      · intro fa fw hfB hfN hfk hft
        have k25 : (NewB 1 #[.int .u8 c.toNat] 5) (fa.eval (.tmp 25)) fw := by have := hfk 7 (mem_needs (by kernel_rfl)) _ rfl; rw [hRs] at this; exact this
        rw [hRs]
        refine hop_plain rfl ?_
        obtain ⟨B, hb1, hb2⟩ := k25
        have hcv : (convert 28 9 (.slice (some ⟨B, 0, none⟩) 1 1)).run Try.prog fw = .ok (.string (mkB [c])) fw := conv_block (l := [c]) (by simpa using hb2) (by simp)
        generalize fa.eval = ρ at *
        exact out_run (v := .string (mkB [c])) (w' := fw) (by simp [execOp, hb1, hcv, go_sem]) ⟨rfl, Below.refl _ _⟩
      refine rel_cons (Φ := Hop _ _ _ _ _ _ _) (k := 9) ?_ ?_
      · intro fa fw hfB hfN hfk hft
        have k20 : fa.eval (.tmp 20) = (.string (mkB [92, a])) := by have := hfk 2 (mem_needs (by kernel_rfl)) _ rfl; rw [hRs] at this; exact this
        rw [hRs]
        refine hop_plain rfl ?_
        refine out_assign rfl ?_
        exact ⟨k20, Below.refl _ _⟩
      refine rel_cons (Φ := Hop _ _ _ _ _ _ _) (k := 10) ?_ ?_
      · intro fa fw hfB hfN hfk hft
        have k23 : fa.eval (.tmp 23) = (.string (mkB [92, b])) := by have := hfk 5 (mem_needs (by kernel_rfl)) _ rfl; rw [hRs] at this; exact this
        rw [hRs]
        refine hop_plain rfl ?_
        refine out_assign rfl ?_
        exact ⟨k23, Below.refl _ _⟩
      refine rel_cons (Φ := Hop _ _ _ _ _ _ _) (k := 11) ?_ ?_
      · intro fa fw hfB hfN hfk hft
        have k26 : fa.eval (.tmp 26) = (.string (mkB [c])) := by have := hfk 8 (mem_needs (by kernel_rfl)) _ rfl; rw [hRs] at this; exact this
        rw [hRs]
        refine hop_plain rfl ?_
        refine out_assign rfl ?_
        exact ⟨k26, Below.refl _ _⟩
      exact rel_nil
    · intro fa fw hfB hfy hff hfs hfd
      rw [hRs] at hfy
      have k7 : fa.eval (.tmp 7) = (.string (mkB [92, a])) := hfy 9 _ rfl (by intro i hi; match i, hi with | 0, h => simp at h | i + 1, h => simp at h)
      have k8 : fa.eval (.tmp 8) = (.string (mkB [92, b])) := hfy 10 _ rfl (by intro i hi; match i, hi with | 0, h => simp at h | i + 1, h => simp at h)
      have k9 : fa.eval (.tmp 9) = (.string (mkB [c])) := hfy 11 _ rfl (by intro i hi; match i, hi with | 0, h => simp at h | i + 1, h => simp at h)
      have e := rel_frame [18, 19, 20, 21, 22, 23, 24, 25, 26, 7, 8, 9] (by kernel_rfl) hff hfs hfd
      simp only [List.foldl] at e
      rw [show fa.tmps.getD 7 undef = .string (mkB [92, a]) from k7, show fa.tmps.getD 8 undef = .string (mkB [92, b]) from k8, show fa.tmps.getD 9 undef = .string (mkB [c]) from k9] at e
      have HBf := Lib.hid (hB.drew.trans (hfB.mono hB.size))
      clear hfy hff hfs hfd k7 k8 k9
      generalize fa.tmps.getD 18 undef = x18 at e
      generalize fa.tmps.getD 19 undef = x19 at e
      generalize fa.tmps.getD 20 undef = x20 at e
      generalize fa.tmps.getD 21 undef = x21 at e
      generalize fa.tmps.getD 22 undef = x22 at e
      generalize fa.tmps.getD 23 undef = x23 at e
      generalize fa.tmps.getD 24 undef = x24 at e
      generalize fa.tmps.getD 25 undef = x25 at e
      generalize fa.tmps.getD 26 undef = x26 at e
      simp [List.setIfInBounds_toArray, List.set_cons_succ, List.set_cons_zero] at e
      subst e
      go_wp2_with fail
      go_meet
      exact ⟨rfl, rfl, rfl, HBf.out⟩
  case rest =>
    obtain ⟨rfl, rfl, rfl, hB⟩ := hcut
    have hbs : ∀ (l : List UInt8) (w1 : World), l.length ≤ 100 → Calls Try.prog 9 #[.string (mkB l), .string (mkB [c])] w1 (GlobEnd (globR l [c]) w1) := fun l w1 hl => glob_any (mkB l) (mkB [c]) w1 (by rw [mkB_size]; omega) (by rw [mkB_size]; simp)
    have e1 : globR [91, 92, a, 93] [c] = (decide (a = c), 0) := by rw [globR_some (parse_cl a), mat_sign _ rfl, has_cl]
    have e2 : globR [91, 94, 92, a, 93] [c] = (decide (a ≠ c) && decide (c ≠ 47), 0) := by rw [globR_some (parse_cln a), mat_sign _ rfl, has_cln]
    have e3 : globR [91, 92, a, 45, 92, b, 93] [c] = if a ≤ b then ((decide (a ≤ c) && decide (c ≤ b)) && (decide (c ≠ 47) || decide (a = b)), 0) else (false, 4) := by
      by_cases h : a ≤ b
      · rw [if_pos h, globR_some (by rw [parse_clr, if_pos h]), mat_sign _ rfl, has_clr]
      · rw [if_neg h, globR_none (by rw [parse_clr, if_neg h])]
    have H1 := Lib.hid (fun w1 => hbs [91, 92, a, 93] w1 (by simp))
    have H2 := Lib.hid (fun w1 => hbs [91, 94, 92, a, 93] w1 (by simp))
    have H3 := Lib.hid (fun w1 => hbs [91, 92, a, 45, 92, b, 93] w1 (by simp))
    rw [e1] at H1
    rw [e2] at H2
    rw [e3] at H3
    have g1 : (⟨#[91]⟩ : ByteArray) ++ mkB [92, a] ++ ⟨#[93]⟩ = mkB [91, 92, a, 93] := rfl
    have g2 : (⟨#[91, 94]⟩ : ByteArray) ++ mkB [92, a] ++ ⟨#[93]⟩ = mkB [91, 94, 92, a, 93] := rfl
    have g3 : (⟨#[91]⟩ : ByteArray) ++ mkB [92, a] ++ ⟨#[45]⟩ ++ mkB [92, b] ++ ⟨#[93]⟩ = mkB [91, 92, a, 45, 92, b, 93] := rfl
    rw [← g1] at H1
    rw [← g2] at H2
    rw [← g3] at H3
    have z1 : (mkB [92, a]).size = 2 := rfl
    have z2 : (mkB [92, b]).size = 2 := rfl
    have z3 : (⟨#[91]⟩ : ByteArray).size = 1 := rfl
    have z4 : (⟨#[93]⟩ : ByteArray).size = 1 := rfl
    have z5 : (⟨#[91, 94]⟩ : ByteArray).size = 2 := rfl
    have z6 : (⟨#[45]⟩ : ByteArray).size = 1 := rfl
    clear HA
    by_cases hac : a = c
    · skip
      by_cases hab6 : a = b
      · skip
        by_cases hc47 : c = 47
        · skip
          subst hac
          subst hab6
          subst hc47
          have v1 : decide ((47 : UInt8) = (47 : UInt8)) = true := by simp
          have v2 : decide ((47 : UInt8) ≠ (47 : UInt8)) = false := by simp
          have v3 : decide ((47 : UInt8) ≠ 47) = false := by simp
          have v4 : decide ((47 : UInt8) = (47 : UInt8)) = true := by simp
          try rw [v1] at H1
          try rw [v2] at H2
          try rw [v3] at H2
          try rw [v3] at H3
          try rw [v4] at H3
          clear e1 e2 e3 g1 g2 g3 hbs v1 v2 v3 v4
          generalize mkB [92, (47 : UInt8)] = q1 at *
          generalize mkB [(47 : UInt8)] = q3 at *
          go_wp2_with fail
          refine (H1.out _).mono ?_
          rintro e w2 ⟨rfl, hB2⟩
          replace hB := hB.trans (hB2.mono hB.size)
          clear hB2
          go_wp2_with fail
          refine (H2.out _).mono ?_
          rintro e w2 ⟨rfl, hB2⟩
          replace hB := hB.trans (hB2.mono hB.size)
          clear hB2
          go_wp2_with fail
          rw [if_pos (UInt8.le_refl _)] at H3
          have l1x : (47 : UInt8) ≤ (47 : UInt8) := by first | exact UInt8.le_refl _ | exact hle
          try rw [decide_eq_true l1x] at H3
          have l1a : 47 ≤ 47 := by have := UInt8.le_iff_toNat_le.1 l1x; first | exact this | simpa using this
          have l1b : (47 : Int) ≤ (47 : Int) := by omega
          clear l1x
          have l2x : (47 : UInt8) ≤ (47 : UInt8) := by first | exact UInt8.le_refl _ | exact hle
          try rw [decide_eq_true l2x] at H3
          have l2a : 47 ≤ 47 := by have := UInt8.le_iff_toNat_le.1 l2x; first | exact this | simpa using this
          have l2b : (47 : Int) ≤ (47 : Int) := by omega
          clear l2x
          have d9 : ¬ 47 < 47 := by omega
          refine (H3.out _).mono ?_
          rintro e w2 ⟨rfl, hB2⟩
          replace hB := hB.trans (hB2.mono hB.size)
          clear hB2 H1 H2 H3
          go_wp2_with fail
          go_ret
          exact ⟨rfl, hB⟩
        · skip
          subst hac
          subst hab6
          have v1 : decide (a = a) = true := by simp
          have v2 : decide (a ≠ a) = false := by simp
          have v3 : decide (a ≠ 47) = true := by exact decide_eq_true hc47
          have v4 : decide (a = a) = true := by simp
          try rw [v1] at H1
          try rw [v2] at H2
          try rw [v3] at H2
          try rw [v3] at H3
          try rw [v4] at H3
          have p1a : ¬ ((a.toNat : Int) = (47 : Int)) := by intro e; exact hc47 (UInt8.toNat_inj.1 (by show _ = (47 : Nat); omega))
          have p1b : ((a.toNat : Int) == (47 : Int)) = false := by rw [beq_eq_false_iff_ne]; exact p1a
          have p1d : ((a.toNat : Int) != (47 : Int)) = true := by rw [bne, p1b]; rfl
          have p1c : ¬ a.toNat = 47 := by omega
          clear e1 e2 e3 g1 g2 g3 hbs v1 v2 v3 v4 hc47
          generalize mkB [92, a] = q1 at *
          generalize mkB [a] = q3 at *
          go_wp2_with fail
          refine (H1.out _).mono ?_
          rintro e w2 ⟨rfl, hB2⟩
          replace hB := hB.trans (hB2.mono hB.size)
          clear hB2
          go_wp2_with fail
          refine (H2.out _).mono ?_
          rintro e w2 ⟨rfl, hB2⟩
          replace hB := hB.trans (hB2.mono hB.size)
          clear hB2
          go_wp2_with fail
          rw [if_pos (UInt8.le_refl _)] at H3
          have l1x : a ≤ a := by first | exact UInt8.le_refl _ | exact hle
          try rw [decide_eq_true l1x] at H3
          have l1a : a.toNat ≤ a.toNat := by have := UInt8.le_iff_toNat_le.1 l1x; first | exact this | simpa using this
          have l1b : (a.toNat : Int) ≤ (a.toNat : Int) := by omega
          clear l1x
          have l2x : a ≤ a := by first | exact UInt8.le_refl _ | exact hle
          try rw [decide_eq_true l2x] at H3
          have l2a : a.toNat ≤ a.toNat := by have := UInt8.le_iff_toNat_le.1 l2x; first | exact this | simpa using this
          have l2b : (a.toNat : Int) ≤ (a.toNat : Int) := by omega
          clear l2x
          have d9 : ¬ a.toNat < a.toNat := by omega
          refine (H3.out _).mono ?_
          rintro e w2 ⟨rfl, hB2⟩
          replace hB := hB.trans (hB2.mono hB.size)
          clear hB2 H1 H2 H3
          go_wp2_with fail
          go_ret
          exact ⟨rfl, hB⟩
      · skip
        by_cases hc47 : c = 47
        · skip
          subst hac
          subst hc47
          have v1 : decide ((47 : UInt8) = (47 : UInt8)) = true := by simp
          have v2 : decide ((47 : UInt8) ≠ (47 : UInt8)) = false := by simp
          have v3 : decide ((47 : UInt8) ≠ 47) = false := by simp
          have v4 : decide ((47 : UInt8) = b) = false := by exact decide_eq_false hab6
          try rw [v1] at H1
          try rw [v2] at H2
          try rw [v3] at H2
          try rw [v3] at H3
          try rw [v4] at H3
          have p1a : ¬ ((47 : Int) = (b.toNat : Int)) := by intro e; exact hab6 (UInt8.toNat_inj.1 (by show (47 : Nat) = _; omega))
          have p1b : ((47 : Int) == (b.toNat : Int)) = false := by rw [beq_eq_false_iff_ne]; exact p1a
          have p1d : ((47 : Int) != (b.toNat : Int)) = true := by rw [bne, p1b]; rfl
          have p1c : ¬ 47 = b.toNat := by omega
          clear e1 e2 e3 g1 g2 g3 hbs v1 v2 v3 v4 hab6
          generalize mkB [92, (47 : UInt8)] = q1 at *
          generalize mkB [92, b] = q2 at *
          generalize mkB [(47 : UInt8)] = q3 at *
          go_wp2_with fail
          refine (H1.out _).mono ?_
          rintro e w2 ⟨rfl, hB2⟩
          replace hB := hB.trans (hB2.mono hB.size)
          clear hB2
          go_wp2_with fail
          refine (H2.out _).mono ?_
          rintro e w2 ⟨rfl, hB2⟩
          replace hB := hB.trans (hB2.mono hB.size)
          clear hB2
          go_wp2_with fail
          by_cases hle : (47 : UInt8) ≤ b
          · rw [if_pos hle] at H3
            have l1x : (47 : UInt8) ≤ (47 : UInt8) := by first | exact UInt8.le_refl _ | exact hle
            try rw [decide_eq_true l1x] at H3
            have l1a : 47 ≤ 47 := by have := UInt8.le_iff_toNat_le.1 l1x; first | exact this | simpa using this
            have l1b : (47 : Int) ≤ (47 : Int) := by omega
            clear l1x
            have l2x : (47 : UInt8) ≤ b := by first | exact UInt8.le_refl _ | exact hle
            try rw [decide_eq_true l2x] at H3
            have l2a : 47 ≤ b.toNat := by have := UInt8.le_iff_toNat_le.1 l2x; first | exact this | simpa using this
            have l2b : (47 : Int) ≤ (b.toNat : Int) := by omega
            clear l2x
            have d3 : ¬ b.toNat < 47 := by have := UInt8.le_iff_toNat_le.1 hle; (try simp at this); omega
            have d4 : ¬ ((b.toNat : Int) < (47 : Int)) := by omega
            clear hle
            refine (H3.out _).mono ?_
            rintro e w2 ⟨rfl, hB2⟩
            replace hB := hB.trans (hB2.mono hB.size)
            clear hB2 H1 H2 H3
            go_wp2_with fail
            go_ret
            exact ⟨rfl, hB⟩
          · rw [if_neg hle] at H3
            have d3 : b.toNat < 47 := by rw [UInt8.le_iff_toNat_le] at hle; (try simp at hle); omega
            have d4 : (b.toNat : Int) < (47 : Int) := by omega
            clear hle
            refine (H3.out _).mono ?_
            rintro e w2 ⟨rfl, hB2⟩
            replace hB := hB.trans (hB2.mono hB.size)
            clear hB2 H1 H2 H3
            go_wp2_with fail
            go_ret
            exact ⟨rfl, hB⟩
        · skip
          subst hac
          have v1 : decide (a = a) = true := by simp
          have v2 : decide (a ≠ a) = false := by simp
          have v3 : decide (a ≠ 47) = true := by exact decide_eq_true hc47
          have v4 : decide (a = b) = false := by exact decide_eq_false hab6
          try rw [v1] at H1
          try rw [v2] at H2
          try rw [v3] at H2
          try rw [v3] at H3
          try rw [v4] at H3
          have p1a : ¬ ((a.toNat : Int) = (b.toNat : Int)) := by intro e; exact hab6 (UInt8.toNat_inj.1 (by omega))
          have p1b : ((a.toNat : Int) == (b.toNat : Int)) = false := by rw [beq_eq_false_iff_ne]; exact p1a
          have p1d : ((a.toNat : Int) != (b.toNat : Int)) = true := by rw [bne, p1b]; rfl
          have p1c : ¬ a.toNat = b.toNat := by omega
          have p2a : ¬ ((a.toNat : Int) = (47 : Int)) := by intro e; exact hc47 (UInt8.toNat_inj.1 (by show _ = (47 : Nat); omega))
          have p2b : ((a.toNat : Int) == (47 : Int)) = false := by rw [beq_eq_false_iff_ne]; exact p2a
          have p2d : ((a.toNat : Int) != (47 : Int)) = true := by rw [bne, p2b]; rfl
          have p2c : ¬ a.toNat = 47 := by omega
          clear e1 e2 e3 g1 g2 g3 hbs v1 v2 v3 v4 hab6 hc47
          generalize mkB [92, a] = q1 at *
          generalize mkB [92, b] = q2 at *
          generalize mkB [a] = q3 at *
          go_wp2_with fail
          refine (H1.out _).mono ?_
          rintro e w2 ⟨rfl, hB2⟩
          replace hB := hB.trans (hB2.mono hB.size)
          clear hB2
          go_wp2_with fail
          refine (H2.out _).mono ?_
          rintro e w2 ⟨rfl, hB2⟩
          replace hB := hB.trans (hB2.mono hB.size)
          clear hB2
          go_wp2_with fail
          by_cases hle : a ≤ b
          · rw [if_pos hle] at H3
            have l1x : a ≤ a := by first | exact UInt8.le_refl _ | exact hle
            try rw [decide_eq_true l1x] at H3
            have l1a : a.toNat ≤ a.toNat := by have := UInt8.le_iff_toNat_le.1 l1x; first | exact this | simpa using this
            have l1b : (a.toNat : Int) ≤ (a.toNat : Int) := by omega
            clear l1x
            have l2x : a ≤ b := by first | exact UInt8.le_refl _ | exact hle
            try rw [decide_eq_true l2x] at H3
            have l2a : a.toNat ≤ b.toNat := by have := UInt8.le_iff_toNat_le.1 l2x; first | exact this | simpa using this
            have l2b : (a.toNat : Int) ≤ (b.toNat : Int) := by omega
            clear l2x
            have d3 : ¬ b.toNat < a.toNat := by have := UInt8.le_iff_toNat_le.1 hle; (try simp at this); omega
            have d4 : ¬ ((b.toNat : Int) < (a.toNat : Int)) := by omega
            clear hle
            refine (H3.out _).mono ?_
            rintro e w2 ⟨rfl, hB2⟩
            replace hB := hB.trans (hB2.mono hB.size)
            clear hB2 H1 H2 H3
            go_wp2_with fail
            go_ret
            exact ⟨rfl, hB⟩
          · rw [if_neg hle] at H3
            have d3 : b.toNat < a.toNat := by rw [UInt8.le_iff_toNat_le] at hle; (try simp at hle); omega
            have d4 : (b.toNat : Int) < (a.toNat : Int) := by omega
            clear hle
            refine (H3.out _).mono ?_
            rintro e w2 ⟨rfl, hB2⟩
            replace hB := hB.trans (hB2.mono hB.size)
            clear hB2 H1 H2 H3
            go_wp2_with fail
            go_ret
            exact ⟨rfl, hB⟩
    · skip
      by_cases hab6 : a = b
      · skip
        by_cases hc47 : c = 47
        · skip
          subst hab6
          subst hc47
          have v1 : decide (a = (47 : UInt8)) = false := by exact decide_eq_false hac
          have v2 : decide (a ≠ (47 : UInt8)) = true := by exact decide_eq_true hac
          have v3 : decide ((47 : UInt8) ≠ 47) = false := by simp
          have v4 : decide (a = a) = true := by simp
          try rw [v1] at H1
          try rw [v2] at H2
          try rw [v3] at H2
          try rw [v3] at H3
          try rw [v4] at H3
          have p1a : ¬ ((a.toNat : Int) = (47 : Int)) := by intro e; exact hac (UInt8.toNat_inj.1 (by show _ = (47 : Nat); omega))
          have p1b : ((a.toNat : Int) == (47 : Int)) = false := by rw [beq_eq_false_iff_ne]; exact p1a
          have p1d : ((a.toNat : Int) != (47 : Int)) = true := by rw [bne, p1b]; rfl
          have p1c : ¬ a.toNat = 47 := by omega
          clear e1 e2 e3 g1 g2 g3 hbs v1 v2 v3 v4 hac
          generalize mkB [92, a] = q1 at *
          generalize mkB [(47 : UInt8)] = q3 at *
          go_wp2_with fail
          refine (H1.out _).mono ?_
          rintro e w2 ⟨rfl, hB2⟩
          replace hB := hB.trans (hB2.mono hB.size)
          clear hB2
          go_wp2_with fail
          refine (H2.out _).mono ?_
          rintro e w2 ⟨rfl, hB2⟩
          replace hB := hB.trans (hB2.mono hB.size)
          clear hB2
          go_wp2_with fail
          rw [if_pos (UInt8.le_refl _)] at H3
          obtain ⟨x4, hx4⟩ : ∃ z, decide (a ≤ (47 : UInt8)) = z := ⟨_, rfl⟩
          rw [hx4] at H3
          have l1a : decide (a.toNat ≤ 47) = x4 := by rw [← hx4, Bool.eq_iff_iff]; simp [UInt8.le_iff_toNat_le]
          have l1b : decide ((a.toNat : Int) ≤ (47 : Int)) = x4 := by rw [← l1a, Bool.eq_iff_iff]; simp; try omega
          clear hx4
          obtain ⟨x5, hx5⟩ : ∃ z, decide ((47 : UInt8) ≤ a) = z := ⟨_, rfl⟩
          rw [hx5] at H3
          have l2a : decide (47 ≤ a.toNat) = x5 := by rw [← hx5, Bool.eq_iff_iff]; simp [UInt8.le_iff_toNat_le]
          have l2b : decide ((47 : Int) ≤ (a.toNat : Int)) = x5 := by rw [← l2a, Bool.eq_iff_iff]; simp; try omega
          clear hx5
          have d9 : ¬ a.toNat < a.toNat := by omega
          refine (H3.out _).mono ?_
          rintro e w2 ⟨rfl, hB2⟩
          replace hB := hB.trans (hB2.mono hB.size)
          clear hB2 H1 H2 H3
          cases x4 <;> cases x5
          all_goals
            go_wp2_with fail
            go_ret
            exact ⟨rfl, hB⟩
        · skip
          subst hab6
          have v1 : decide (a = c) = false := by exact decide_eq_false hac
          have v2 : decide (a ≠ c) = true := by exact decide_eq_true hac
          have v3 : decide (c ≠ 47) = true := by exact decide_eq_true hc47
          have v4 : decide (a = a) = true := by simp
          try rw [v1] at H1
          try rw [v2] at H2
          try rw [v3] at H2
          try rw [v3] at H3
          try rw [v4] at H3
          have p1a : ¬ ((a.toNat : Int) = (c.toNat : Int)) := by intro e; exact hac (UInt8.toNat_inj.1 (by omega))
          have p1b : ((a.toNat : Int) == (c.toNat : Int)) = false := by rw [beq_eq_false_iff_ne]; exact p1a
          have p1d : ((a.toNat : Int) != (c.toNat : Int)) = true := by rw [bne, p1b]; rfl
          have p1c : ¬ a.toNat = c.toNat := by omega
          have p2a : ¬ ((c.toNat : Int) = (47 : Int)) := by intro e; exact hc47 (UInt8.toNat_inj.1 (by show _ = (47 : Nat); omega))
          have p2b : ((c.toNat : Int) == (47 : Int)) = false := by rw [beq_eq_false_iff_ne]; exact p2a
          have p2d : ((c.toNat : Int) != (47 : Int)) = true := by rw [bne, p2b]; rfl
          have p2c : ¬ c.toNat = 47 := by omega
          clear e1 e2 e3 g1 g2 g3 hbs v1 v2 v3 v4 hac hc47
          generalize mkB [92, a] = q1 at *
          generalize mkB [c] = q3 at *
          go_wp2_with fail
          refine (H1.out _).mono ?_
          rintro e w2 ⟨rfl, hB2⟩
          replace hB := hB.trans (hB2.mono hB.size)
          clear hB2
          go_wp2_with fail
          refine (H2.out _).mono ?_
          rintro e w2 ⟨rfl, hB2⟩
          replace hB := hB.trans (hB2.mono hB.size)
          clear hB2
          go_wp2_with fail
          rw [if_pos (UInt8.le_refl _)] at H3
          obtain ⟨x4, hx4⟩ : ∃ z, decide (a ≤ c) = z := ⟨_, rfl⟩
          rw [hx4] at H3
          have l1a : decide (a.toNat ≤ c.toNat) = x4 := by rw [← hx4, Bool.eq_iff_iff]; simp [UInt8.le_iff_toNat_le]
          have l1b : decide ((a.toNat : Int) ≤ (c.toNat : Int)) = x4 := by rw [← l1a, Bool.eq_iff_iff]; simp; try omega
          clear hx4
          obtain ⟨x5, hx5⟩ : ∃ z, decide (c ≤ a) = z := ⟨_, rfl⟩
          rw [hx5] at H3
          have l2a : decide (c.toNat ≤ a.toNat) = x5 := by rw [← hx5, Bool.eq_iff_iff]; simp [UInt8.le_iff_toNat_le]
          have l2b : decide ((c.toNat : Int) ≤ (a.toNat : Int)) = x5 := by rw [← l2a, Bool.eq_iff_iff]; simp; try omega
          clear hx5
          have d9 : ¬ a.toNat < a.toNat := by omega
          refine (H3.out _).mono ?_
          rintro e w2 ⟨rfl, hB2⟩
          replace hB := hB.trans (hB2.mono hB.size)
          clear hB2 H1 H2 H3
          cases x4 <;> cases x5
          all_goals
            go_wp2_with fail
            go_ret
            exact ⟨rfl, hB⟩
      · skip
        by_cases hc47 : c = 47
        · skip
          subst hc47
          have v1 : decide (a = (47 : UInt8)) = false := by exact decide_eq_false hac
          have v2 : decide (a ≠ (47 : UInt8)) = true := by exact decide_eq_true hac
          have v3 : decide ((47 : UInt8) ≠ 47) = false := by simp
          have v4 : decide (a = b) = false := by exact decide_eq_false hab6
          try rw [v1] at H1
          try rw [v2] at H2
          try rw [v3] at H2
          try rw [v3] at H3
          try rw [v4] at H3
          have p1a : ¬ ((a.toNat : Int) = (47 : Int)) := by intro e; exact hac (UInt8.toNat_inj.1 (by show _ = (47 : Nat); omega))
          have p1b : ((a.toNat : Int) == (47 : Int)) = false := by rw [beq_eq_false_iff_ne]; exact p1a
          have p1d : ((a.toNat : Int) != (47 : Int)) = true := by rw [bne, p1b]; rfl
          have p1c : ¬ a.toNat = 47 := by omega
          have p2a : ¬ ((a.toNat : Int) = (b.toNat : Int)) := by intro e; exact hab6 (UInt8.toNat_inj.1 (by omega))
          have p2b : ((a.toNat : Int) == (b.toNat : Int)) = false := by rw [beq_eq_false_iff_ne]; exact p2a
          have p2d : ((a.toNat : Int) != (b.toNat : Int)) = true := by rw [bne, p2b]; rfl
          have p2c : ¬ a.toNat = b.toNat := by omega
          clear e1 e2 e3 g1 g2 g3 hbs v1 v2 v3 v4 hac hab6
          generalize mkB [92, a] = q1 at *
          generalize mkB [92, b] = q2 at *
          generalize mkB [(47 : UInt8)] = q3 at *
          go_wp2_with fail
          refine (H1.out _).mono ?_
          rintro e w2 ⟨rfl, hB2⟩
          replace hB := hB.trans (hB2.mono hB.size)
          clear hB2
          go_wp2_with fail
          refine (H2.out _).mono ?_
          rintro e w2 ⟨rfl, hB2⟩
          replace hB := hB.trans (hB2.mono hB.size)
          clear hB2
          go_wp2_with fail
          by_cases hle : a ≤ b
          · rw [if_pos hle] at H3
            obtain ⟨x4, hx4⟩ : ∃ z, decide (a ≤ (47 : UInt8)) = z := ⟨_, rfl⟩
            rw [hx4] at H3
            have l1a : decide (a.toNat ≤ 47) = x4 := by rw [← hx4, Bool.eq_iff_iff]; simp [UInt8.le_iff_toNat_le]
            have l1b : decide ((a.toNat : Int) ≤ (47 : Int)) = x4 := by rw [← l1a, Bool.eq_iff_iff]; simp; try omega
            clear hx4
            obtain ⟨x5, hx5⟩ : ∃ z, decide ((47 : UInt8) ≤ b) = z := ⟨_, rfl⟩
            rw [hx5] at H3
            have l2a : decide (47 ≤ b.toNat) = x5 := by rw [← hx5, Bool.eq_iff_iff]; simp [UInt8.le_iff_toNat_le]
            have l2b : decide ((47 : Int) ≤ (b.toNat : Int)) = x5 := by rw [← l2a, Bool.eq_iff_iff]; simp; try omega
            clear hx5
            have d3 : ¬ b.toNat < a.toNat := by have := UInt8.le_iff_toNat_le.1 hle; (try simp at this); omega
            have d4 : ¬ ((b.toNat : Int) < (a.toNat : Int)) := by omega
            clear hle
            refine (H3.out _).mono ?_
            rintro e w2 ⟨rfl, hB2⟩
            replace hB := hB.trans (hB2.mono hB.size)
            clear hB2 H1 H2 H3
            cases x4 <;> cases x5
            all_goals
              go_wp2_with fail
              go_ret
              exact ⟨rfl, hB⟩
          · rw [if_neg hle] at H3
            have d3 : b.toNat < a.toNat := by rw [UInt8.le_iff_toNat_le] at hle; (try simp at hle); omega
            have d4 : (b.toNat : Int) < (a.toNat : Int) := by omega
            clear hle
            refine (H3.out _).mono ?_
            rintro e w2 ⟨rfl, hB2⟩
            replace hB := hB.trans (hB2.mono hB.size)
            clear hB2 H1 H2 H3
            go_wp2_with fail
            go_ret
            exact ⟨rfl, hB⟩
        · skip
          have v1 : decide (a = c) = false := by exact decide_eq_false hac
          have v2 : decide (a ≠ c) = true := by exact decide_eq_true hac
          have v3 : decide (c ≠ 47) = true := by exact decide_eq_true hc47
          have v4 : decide (a = b) = false := by exact decide_eq_false hab6
          try rw [v1] at H1
          try rw [v2] at H2
          try rw [v3] at H2
          try rw [v3] at H3
          try rw [v4] at H3
          have p1a : ¬ ((a.toNat : Int) = (c.toNat : Int)) := by intro e; exact hac (UInt8.toNat_inj.1 (by omega))
          have p1b : ((a.toNat : Int) == (c.toNat : Int)) = false := by rw [beq_eq_false_iff_ne]; exact p1a
          have p1d : ((a.toNat : Int) != (c.toNat : Int)) = true := by rw [bne, p1b]; rfl
          have p1c : ¬ a.toNat = c.toNat := by omega
          have p2a : ¬ ((a.toNat : Int) = (b.toNat : Int)) := by intro e; exact hab6 (UInt8.toNat_inj.1 (by omega))
          have p2b : ((a.toNat : Int) == (b.toNat : Int)) = false := by rw [beq_eq_false_iff_ne]; exact p2a
          have p2d : ((a.toNat : Int) != (b.toNat : Int)) = true := by rw [bne, p2b]; rfl
          have p2c : ¬ a.toNat = b.toNat := by omega
          have p3a : ¬ ((c.toNat : Int) = (47 : Int)) := by intro e; exact hc47 (UInt8.toNat_inj.1 (by show _ = (47 : Nat); omega))
          have p3b : ((c.toNat : Int) == (47 : Int)) = false := by rw [beq_eq_false_iff_ne]; exact p3a
          have p3d : ((c.toNat : Int) != (47 : Int)) = true := by rw [bne, p3b]; rfl
          have p3c : ¬ c.toNat = 47 := by omega
          clear e1 e2 e3 g1 g2 g3 hbs v1 v2 v3 v4 hac hab6 hc47
          generalize mkB [92, a] = q1 at *
          generalize mkB [92, b] = q2 at *
          generalize mkB [c] = q3 at *
          go_wp2_with fail
          refine (H1.out _).mono ?_
          rintro e w2 ⟨rfl, hB2⟩
          replace hB := hB.trans (hB2.mono hB.size)
          clear hB2
          go_wp2_with fail
          refine (H2.out _).mono ?_
          rintro e w2 ⟨rfl, hB2⟩
          replace hB := hB.trans (hB2.mono hB.size)
          clear hB2
          go_wp2_with fail
          by_cases hle : a ≤ b
          · rw [if_pos hle] at H3
            obtain ⟨x4, hx4⟩ : ∃ z, decide (a ≤ c) = z := ⟨_, rfl⟩
            rw [hx4] at H3
            have l1a : decide (a.toNat ≤ c.toNat) = x4 := by rw [← hx4, Bool.eq_iff_iff]; simp [UInt8.le_iff_toNat_le]
            have l1b : decide ((a.toNat : Int) ≤ (c.toNat : Int)) = x4 := by rw [← l1a, Bool.eq_iff_iff]; simp; try omega
            clear hx4
            obtain ⟨x5, hx5⟩ : ∃ z, decide (c ≤ b) = z := ⟨_, rfl⟩
            rw [hx5] at H3
            have l2a : decide (c.toNat ≤ b.toNat) = x5 := by rw [← hx5, Bool.eq_iff_iff]; simp [UInt8.le_iff_toNat_le]
            have l2b : decide ((c.toNat : Int) ≤ (b.toNat : Int)) = x5 := by rw [← l2a, Bool.eq_iff_iff]; simp; try omega
            clear hx5
            have d3 : ¬ b.toNat < a.toNat := by have := UInt8.le_iff_toNat_le.1 hle; (try simp at this); omega
            have d4 : ¬ ((b.toNat : Int) < (a.toNat : Int)) := by omega
            clear hle
            refine (H3.out _).mono ?_
            rintro e w2 ⟨rfl, hB2⟩
            replace hB := hB.trans (hB2.mono hB.size)
            clear hB2 H1 H2 H3
            cases x4 <;> cases x5
            all_goals
              go_wp2_with fail
              go_ret
              exact ⟨rfl, hB⟩
          · rw [if_neg hle] at H3
            have d3 : b.toNat < a.toNat := by rw [UInt8.le_iff_toNat_le] at hle; (try simp at hle); omega
            have d4 : (b.toNat : Int) < (a.toNat : Int) := by omega
            clear hle
            refine (H3.out _).mono ?_
            rintro e w2 ⟨rfl, hB2⟩
            replace hB := hB.trans (hB2.mono hB.size)
            clear hB2 H1 H2 H3
            go_wp2_with fail
            go_ret
            exact ⟨rfl, hB⟩
theorem class_u8 (a b c : Int) (w : World) (ha : (Lit.int .u8 a).wf = true) (hb : (Lit.int .u8 b).wf = true) (hc : (Lit.int .u8 c).wf = true) : Calls Try.prog 7 #[.int .u8 a, .int .u8 b, .int .u8 c] w (LawEnd w) := by
  have h1 := wf_u8 ha
  have h2 := wf_u8 hb
  have h3 := wf_u8 hc
  obtain ⟨x, rfl⟩ : ∃ d : UInt8, a = (d.toNat : Int) := ⟨UInt8.ofNat a.toNat, by rw [UInt8.toNat_ofNat', Nat.mod_eq_of_lt (by omega)]; omega⟩
  obtain ⟨y, rfl⟩ : ∃ d : UInt8, b = (d.toNat : Int) := ⟨UInt8.ofNat b.toNat, by rw [UInt8.toNat_ofNat', Nat.mod_eq_of_lt (by omega)]; omega⟩
  obtain ⟨z, rfl⟩ : ∃ d : UInt8, c = (d.toNat : Int) := ⟨UInt8.ofNat c.toNat, by rw [UInt8.toNat_ofNat', Nat.mod_eq_of_lt (by omega)]; omega⟩
  exact class_walk x y z w
end Go.Proofs.Ytaaggfccbbimbaa
