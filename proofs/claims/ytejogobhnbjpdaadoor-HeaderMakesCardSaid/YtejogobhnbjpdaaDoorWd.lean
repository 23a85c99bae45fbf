/- Walks: the document's sign at a place. -/
import Derived.Test.YtejogobhnbjpdaaDoorWc
namespace Go.Proofs.YtejogobhnbjpdaaDoor
set_option linter.unusedVariables false
open Go.ChangeShapes Go.WideShapes Go.ChangeAt Go.RowKit

/-- What m bytes from place i on say. -/
def cand (s : ByteArray) (i : Nat) : Nat → Nat
  | 1 => (s.get! i).toNat
  | 2 => 64 * ((s.get! i).toNat % 32) + (s.get! (i + 1)).toNat % 64
  | 3 => 64 * (64 * ((s.get! i).toNat % 16) + (s.get! (i + 1)).toNat % 64) + (s.get! (i + 2)).toNat % 64
  | _ => 64 * (64 * (64 * ((s.get! i).toNat % 8) + (s.get! (i + 1)).toNat % 64) + (s.get! (i + 2)).toNat % 64) + (s.get! (i + 3)).toNat % 64
/-- Whether these are a sign's bytes. -/
def goodB (s : ByteArray) (i m : Nat) : Bool := decide (m ≤ s.size - i) && (isSign (cand s i m) && ((encB (cand s i m)).toList == (s.extract i (i + m)).toList))
def finV (r m i : Nat) : Int × Nat := if r = 65279 ∧ 0 < i then (-1, 3) else ((r : Int), m)
def refAt (s : ByteArray) (i : Nat) : Int × Nat :=
  if goodB s i 1 then finV (cand s i 1) 1 i
  else if goodB s i 2 then finV (cand s i 2) 2 i
  else if goodB s i 3 then finV (cand s i 3) 3 i
  else if goodB s i 4 then finV (cand s i 4) 4 i
  else (-1, 1)

theorem get_is (s : ByteArray) (i : Nat) (h : i < s.size) : s.get! i = s[i] := by
  show s.data[i]! = _
  rw [getElem!_pos s.data i h]; rfl

theorem cand_le (s : ByteArray) (i m : Nat) : cand s i m < 2097152 := by
  have h0 := (s.get! i).toNat_lt
  have h1 := (s.get! (i+1)).toNat_lt
  have h2 := (s.get! (i+2)).toNat_lt
  have h3 := (s.get! (i+3)).toNat_lt
  unfold cand
  split <;> omega

theorem good_far (s : ByteArray) (i k : Nat) (h : s.size - i < k) : goodB s i k = false := by
  unfold goodB
  rw [decide_eq_false (by omega)]; rfl

theorem refAt_good (s : ByteArray) (i m : Nat) (hm : 1 ≤ m) (hm4 : m ≤ 4) (hno : ∀ k, 1 ≤ k → k < m → goodB s i k = false) (hg : goodB s i m = true) : refAt s i = finV (cand s i m) m i := by
  unfold refAt
  rcases (by omega : m = 1 ∨ m = 2 ∨ m = 3 ∨ m = 4) with rfl | rfl | rfl | rfl
  · simp [hg]
  · simp [hg, hno 1 (by omega) (by omega)]
  · simp [hg, hno 1 (by omega) (by omega), hno 2 (by omega) (by omega)]
  · simp [hg, hno 1 (by omega) (by omega), hno 2 (by omega) (by omega), hno 3 (by omega) (by omega)]

theorem refAt_none (s : ByteArray) (i : Nat) (hno : ∀ k, 1 ≤ k → k ≤ 4 → goodB s i k = false) : refAt s i = (-1, 1) := by
  simp [refAt, hno 1 (by omega) (by omega), hno 2 (by omega) (by omega), hno 3 (by omega) (by omega), hno 4 (by omega) (by omega)]

theorem good_is {s : ByteArray} {i m c : Nat} (hle : (m : Int) ≤ (s.size : Int) - i) (hc : cand s i m = c) : goodB s i m = (isSign c && ((encB c).toList == (s.extract i (i + m)).toList)) := by
  unfold goodB
  rw [hc, decide_eq_true (by omega), Bool.true_and]

theorem sign_le {c : Nat} (h : isSign c = true) : c ≤ 1114111 := by
  have := of_decide_eq_true h
  omega

set_option maxRecDepth 1000000 in
set_option maxHeartbeats 4000000 in
theorem refRune_in (s : ByteArray) (i : Nat) (w : World) (hi : i < s.size) (hs : s.size ≤ 140737488351232) :
    Calls Tryd.prog 37 #[.string s, .int .i64 i] w fun e w' => e = .returned (.tuple #[.int .i64 (refAt s i).1, .int .i64 (refAt s i).2]) ∧ Below w.heap.size w w' := by
  have h1 : decide ((i : Int) < 0) = false := by simp
  have h2 : decide (s.size ≤ i) = false := by simp; omega
  generalize hrf : refAt s i = rf at *
  have Hrf := Lib.hid hrf
  clear hrf
  have hS : ∀ (c : Nat) w1, Below w.heap.size w w1 → Calls Tryd.prog 59 #[.int .i64 c] w1 fun e w' => e = .returned (.bool (isSign c)) ∧ Below w.heap.size w w' := fun c w1 hB => (sign_any c w1).mono fun e w' ⟨h1, h2⟩ => ⟨h1, h2 ▸ hB⟩
  have hY : ∀ (c : Nat) w1, c ≤ 1114111 → Below w.heap.size w w1 → Calls Tryd.prog 60 #[.int .i64 c] w1 fun e w' => e = .returned (.string (encB c)) ∧ Below w.heap.size w w' := fun c w1 hc hB => (bytes_any c w1 hc).mono fun e w' ⟨h1, h2⟩ => ⟨h1, hB.trans (h2.mono hB.size)⟩
  have HS := Lib.hid hS
  have HY := Lib.hid hY
  clear hS hY
  go_enter Tryd.func37, Tryd.ntmps37
  go_wp2_with fail
  go_loopw [6, 7, 8] (fun n _ _ wr => ∃ m : Nat, 1 ≤ m ∧ m ≤ 5 ∧ n = .int .i64 m ∧ (∀ k, 1 ≤ k → k < m → goodB s i k = false) ∧ Below w.heap.size w wr) (fun n _ _ _ => 5 - (intOf n).toNat)
  case atStart => exact ⟨1, by omega, by omega, rfl, fun k h1 h2 => by omega, Below.refl _ _⟩
  case round =>
    obtain ⟨m, hm1, hm5, rfl, hno, hB⟩ := hrel
    have Hno := Lib.hid hno
    clear hno
    rcases (by omega : m = 1 ∨ m = 2 ∨ m = 3 ∨ m = 4 ∨ m = 5) with rfl | rfl | rfl | rfl | rfl
    · by_cases hle : (1 : Int) ≤ (s.size : Int) - i
      · obtain ⟨b0, hb0⟩ : ∃ b0, b0 = (s[i]'hi).toNat := ⟨_, rfl⟩
        have hbb0 : b0 < 256 := by rw [hb0]; exact (s[i]'hi).toNat_lt
        have hr0 : (s[i]'hi).toNat = b0 := hb0.symm
        clear hb0
        obtain ⟨c, hc⟩ : ∃ c : Nat, c = b0 := ⟨_, rfl⟩
        have hcand : cand s i 1 = c := by simp only [cand, get_is s i hi, hr0]; exact hc.symm
        have hcI : (b0 : Int) = (c : Int) := by rw [hc]; try omega
        have hgi := good_is (m := 1) hle hcand
        have HcI := Lib.hid hcI
        have Hcand := Lib.hid hcand
        have Hgi := Lib.hid hgi
        clear hc hcand hcI hgi
        go_wp2_with fail
        refine wp_loop_rounds 1 ?_
        rw [rounds_succ]
        go_wp2_with fail
        rw [HcI.out]
        clear HcI hr0 hbb0
        cases hsg : isSign c with
        | false =>
          have hg : goodB s i 1 = false := by rw [Hgi.out, hsg]; rfl
          have hSc := HS.out c
          rw [hsg] at hSc
          have HSc := Lib.hid hSc
          have Hg := Lib.hid hg
          clear hSc hsg hg
          refine wp_region_class (fun w' => Below w.heap.size w w') (by kernel_rfl) (by kernel_rfl) hB.drew ?_
          clear hB
          repeat (go_big_quiet_step (first | (intro _; rfl) | (intro hq; exact HSc.out _ hq)))
          refine wpQuiet_nil ?_
          intro wq hBq
          go_wp2_with fail
          have hno2 : ∀ k, 1 ≤ k → k < 2 → goodB s i k = false := fun k h1 h2 => (Nat.lt_or_ge k 1).elim (fun hk => Hno.out k h1 hk) (fun hk => (show k = 1 by omega) ▸ Hg.out)
          go_roundw
          case rel => first | exact ⟨2, by omega, by omega, by go_num, hno2, hBq⟩ | ((repeat apply Exists.intro); exact ⟨⟨2, by omega, by omega, by go_num, hno2, hBq⟩, rfl⟩)
          case measure => simp [intOf]
        | true =>
          have hcl := sign_le hsg
          have hSc := HS.out c
          rw [hsg] at hSc
          have hYc := fun w1 => HY.out c w1 hcl
          have HSc := Lib.hid hSc
          have HYc := Lib.hid hYc
          cases heq : ((encB c).toList == (s.extract i (i + 1)).toList) with
          | false =>
            have hg : goodB s i 1 = false := by rw [Hgi.out, hsg, heq]; rfl
            have Hg := Lib.hid hg
            clear hSc hYc hsg hg
            refine wp_region_class (fun w' => Below w.heap.size w w') (by kernel_rfl) (by kernel_rfl) hB.drew ?_
            clear hB
            repeat (go_big_quiet_step (first | (intro _; rfl) | (intro hq; exact HSc.out _ hq) | (intro hq; exact HYc.out _ hq)))
            refine wpQuiet_nil ?_
            intro wq hBq
            go_wp2_with fail
            have hno2 : ∀ k, 1 ≤ k → k < 2 → goodB s i k = false := fun k h1 h2 => (Nat.lt_or_ge k 1).elim (fun hk => Hno.out k h1 hk) (fun hk => (show k = 1 by omega) ▸ Hg.out)
            go_roundw
            case rel => first | exact ⟨2, by omega, by omega, by go_num, hno2, hBq⟩ | ((repeat apply Exists.intro); exact ⟨⟨2, by omega, by omega, by go_num, hno2, hBq⟩, rfl⟩)
            case measure => simp [intOf]
          | true =>
            have hg : goodB s i 1 = true := by rw [Hgi.out, hsg, heq]; rfl
            have hfin := refAt_good s i 1 (by omega) (by omega) Hno.out hg
            rw [Hrf.out, Hcand.out] at hfin
            have Hfin := Lib.hid hfin
            clear hSc hYc hsg hg hfin
            refine wp_region_class (fun w' => Below w.heap.size w w') (by kernel_rfl) (by kernel_rfl) hB.drew ?_
            clear hB
            repeat (go_big_quiet_step (first | (intro _; rfl) | (intro hq; exact HSc.out _ hq) | (intro hq; exact HYc.out _ hq)))
            refine wpQuiet_nil ?_
            intro wq hBq
            clear heq
            by_cases hm : c = 65279
            · subst hm
              by_cases hi0 : 0 < i
              · have t3 : decide (0 < i) = true := by simp; omega
                go_wp2_with fail
                go_ret2
                exact ⟨by rw [Hfin.out, finV, if_pos ⟨rfl, hi0⟩]; rfl, hBq⟩
              · have t3 : decide (0 < i) = false := by simp; omega
                have hiz : i = 0 := by omega
                have Hiz := Lib.hid hiz
                clear hiz
                go_wp2_with fail
                go_ret2
                exact ⟨by rw [Hfin.out, finV, if_neg (by omega)]; rfl, hBq⟩
            · have t4 : ((c : Int) == 65279) = false := beq_eq_false_iff_ne.2 (by omega)
              go_wp2_with fail
              go_ret2
              exact ⟨by rw [Hfin.out, finV, if_neg (by omega)]; rfl, hBq⟩
      · omega
    · by_cases hle : (2 : Int) ≤ (s.size : Int) - i
      · obtain ⟨b0, hb0⟩ : ∃ b0, b0 = (s[i]'hi).toNat := ⟨_, rfl⟩
        have hbb0 : b0 < 256 := by rw [hb0]; exact (s[i]'hi).toNat_lt
        have hr0 : (s[i]'hi).toNat = b0 := hb0.symm
        have hi1 : i + 1 < s.size := by omega
        obtain ⟨b1, hb1⟩ : ∃ b1, b1 = (s[i + 1]'hi1).toNat := ⟨_, rfl⟩
        have hbb1 : b1 < 256 := by rw [hb1]; exact (s[i + 1]'hi1).toNat_lt
        have hr1 : (s[i + 1]'hi1).toNat = b1 := hb1.symm
        clear hb0 hb1
        obtain ⟨c, hc⟩ : ∃ c : Nat, c = 64 * (b0 % 32) + b1 % 64 := ⟨_, rfl⟩
        have hcand : cand s i 2 = c := by simp only [cand, get_is s i hi, get_is s (i + 1) hi1, hr0, hr1]; exact hc.symm
        have hcI : 64 * ((b0 : Int) % 32) + (b1 : Int) % 64 = (c : Int) := by rw [hc]; try omega
        have hgi := good_is (m := 2) hle hcand
        have HcI := Lib.hid hcI
        have Hcand := Lib.hid hcand
        have Hgi := Lib.hid hgi
        clear hc hcand hcI hgi
        go_wp2_with fail
        refine wp_loop_rounds 2 ?_
        rw [rounds_succ]
        go_wp2_with fail
        rw [rounds_succ]
        go_wp2_with fail
        rw [HcI.out]
        clear HcI hr0 hbb0 hr1 hbb1
        cases hsg : isSign c with
        | false =>
          have hg : goodB s i 2 = false := by rw [Hgi.out, hsg]; rfl
          have hSc := HS.out c
          rw [hsg] at hSc
          have HSc := Lib.hid hSc
          have Hg := Lib.hid hg
          clear hSc hsg hg
          refine wp_region_class (fun w' => Below w.heap.size w w') (by kernel_rfl) (by kernel_rfl) hB.drew ?_
          clear hB
          repeat (go_big_quiet_step (first | (intro _; rfl) | (intro hq; exact HSc.out _ hq)))
          refine wpQuiet_nil ?_
          intro wq hBq
          go_wp2_with fail
          have hno2 : ∀ k, 1 ≤ k → k < 3 → goodB s i k = false := fun k h1 h2 => (Nat.lt_or_ge k 2).elim (fun hk => Hno.out k h1 hk) (fun hk => (show k = 2 by omega) ▸ Hg.out)
          go_roundw
          case rel => first | exact ⟨3, by omega, by omega, by go_num, hno2, hBq⟩ | ((repeat apply Exists.intro); exact ⟨⟨3, by omega, by omega, by go_num, hno2, hBq⟩, rfl⟩)
          case measure => simp [intOf]
        | true =>
          have hcl := sign_le hsg
          have hSc := HS.out c
          rw [hsg] at hSc
          have hYc := fun w1 => HY.out c w1 hcl
          have HSc := Lib.hid hSc
          have HYc := Lib.hid hYc
          cases heq : ((encB c).toList == (s.extract i (i + 2)).toList) with
          | false =>
            have hg : goodB s i 2 = false := by rw [Hgi.out, hsg, heq]; rfl
            have Hg := Lib.hid hg
            clear hSc hYc hsg hg
            refine wp_region_class (fun w' => Below w.heap.size w w') (by kernel_rfl) (by kernel_rfl) hB.drew ?_
            clear hB
            repeat (go_big_quiet_step (first | (intro _; rfl) | (intro hq; exact HSc.out _ hq) | (intro hq; exact HYc.out _ hq)))
            refine wpQuiet_nil ?_
            intro wq hBq
            go_wp2_with fail
            have hno2 : ∀ k, 1 ≤ k → k < 3 → goodB s i k = false := fun k h1 h2 => (Nat.lt_or_ge k 2).elim (fun hk => Hno.out k h1 hk) (fun hk => (show k = 2 by omega) ▸ Hg.out)
            go_roundw
            case rel => first | exact ⟨3, by omega, by omega, by go_num, hno2, hBq⟩ | ((repeat apply Exists.intro); exact ⟨⟨3, by omega, by omega, by go_num, hno2, hBq⟩, rfl⟩)
            case measure => simp [intOf]
          | true =>
            have hg : goodB s i 2 = true := by rw [Hgi.out, hsg, heq]; rfl
            have hfin := refAt_good s i 2 (by omega) (by omega) Hno.out hg
            rw [Hrf.out, Hcand.out] at hfin
            have Hfin := Lib.hid hfin
            clear hSc hYc hsg hg hfin
            refine wp_region_class (fun w' => Below w.heap.size w w') (by kernel_rfl) (by kernel_rfl) hB.drew ?_
            clear hB
            repeat (go_big_quiet_step (first | (intro _; rfl) | (intro hq; exact HSc.out _ hq) | (intro hq; exact HYc.out _ hq)))
            refine wpQuiet_nil ?_
            intro wq hBq
            clear heq
            by_cases hm : c = 65279
            · subst hm
              by_cases hi0 : 0 < i
              · have t3 : decide (0 < i) = true := by simp; omega
                go_wp2_with fail
                go_ret2
                exact ⟨by rw [Hfin.out, finV, if_pos ⟨rfl, hi0⟩]; rfl, hBq⟩
              · have t3 : decide (0 < i) = false := by simp; omega
                have hiz : i = 0 := by omega
                have Hiz := Lib.hid hiz
                clear hiz
                go_wp2_with fail
                go_ret2
                exact ⟨by rw [Hfin.out, finV, if_neg (by omega)]; rfl, hBq⟩
            · have t4 : ((c : Int) == 65279) = false := beq_eq_false_iff_ne.2 (by omega)
              go_wp2_with fail
              go_ret2
              exact ⟨by rw [Hfin.out, finV, if_neg (by omega)]; rfl, hBq⟩
      · have hrf : rf = (-1, 1) := by rw [← Hrf.out]; exact refAt_none s i (fun k h1 h2 => (Nat.lt_or_ge k 2).elim (fun hk => Hno.out k h1 hk) (fun hk => good_far s i k (by omega)))
        have H2 := Lib.hid hrf
        have hle2 : decide ((2 : Int) ≤ (s.size : Int) - i) = false := decide_eq_false hle
        clear hrf
        go_wp2_with fail
        go_ret2
        exact ⟨by rw [H2.out]; rfl, hB⟩
    · by_cases hle : (3 : Int) ≤ (s.size : Int) - i
      · obtain ⟨b0, hb0⟩ : ∃ b0, b0 = (s[i]'hi).toNat := ⟨_, rfl⟩
        have hbb0 : b0 < 256 := by rw [hb0]; exact (s[i]'hi).toNat_lt
        have hr0 : (s[i]'hi).toNat = b0 := hb0.symm
        have hi1 : i + 1 < s.size := by omega
        obtain ⟨b1, hb1⟩ : ∃ b1, b1 = (s[i + 1]'hi1).toNat := ⟨_, rfl⟩
        have hbb1 : b1 < 256 := by rw [hb1]; exact (s[i + 1]'hi1).toNat_lt
        have hr1 : (s[i + 1]'hi1).toNat = b1 := hb1.symm
        have hi2 : i + 2 < s.size := by omega
        obtain ⟨b2, hb2⟩ : ∃ b2, b2 = (s[i + 2]'hi2).toNat := ⟨_, rfl⟩
        have hbb2 : b2 < 256 := by rw [hb2]; exact (s[i + 2]'hi2).toNat_lt
        have hr2 : (s[i + 2]'hi2).toNat = b2 := hb2.symm
        clear hb0 hb1 hb2
        obtain ⟨c, hc⟩ : ∃ c : Nat, c = 64 * (64 * (b0 % 16) + b1 % 64) + b2 % 64 := ⟨_, rfl⟩
        have hcand : cand s i 3 = c := by simp only [cand, get_is s i hi, get_is s (i + 1) hi1, get_is s (i + 2) hi2, hr0, hr1, hr2]; exact hc.symm
        have hcI : 64 * (64 * ((b0 : Int) % 16) + (b1 : Int) % 64) + (b2 : Int) % 64 = (c : Int) := by rw [hc]; try omega
        have hgi := good_is (m := 3) hle hcand
        have HcI := Lib.hid hcI
        have Hcand := Lib.hid hcand
        have Hgi := Lib.hid hgi
        clear hc hcand hcI hgi
        go_wp2_with fail
        refine wp_loop_rounds 3 ?_
        rw [rounds_succ]
        go_wp2_with fail
        rw [rounds_succ]
        go_wp2_with fail
        rw [rounds_succ]
        go_wp2_with fail
        rw [HcI.out]
        clear HcI hr0 hbb0 hr1 hbb1 hr2 hbb2
        cases hsg : isSign c with
        | false =>
          have hg : goodB s i 3 = false := by rw [Hgi.out, hsg]; rfl
          have hSc := HS.out c
          rw [hsg] at hSc
          have HSc := Lib.hid hSc
          have Hg := Lib.hid hg
          clear hSc hsg hg
          refine wp_region_class (fun w' => Below w.heap.size w w') (by kernel_rfl) (by kernel_rfl) hB.drew ?_
          clear hB
          repeat (go_big_quiet_step (first | (intro _; rfl) | (intro hq; exact HSc.out _ hq)))
          refine wpQuiet_nil ?_
          intro wq hBq
          go_wp2_with fail
          have hno2 : ∀ k, 1 ≤ k → k < 4 → goodB s i k = false := fun k h1 h2 => (Nat.lt_or_ge k 3).elim (fun hk => Hno.out k h1 hk) (fun hk => (show k = 3 by omega) ▸ Hg.out)
          go_roundw
          case rel => first | exact ⟨4, by omega, by omega, by go_num, hno2, hBq⟩ | ((repeat apply Exists.intro); exact ⟨⟨4, by omega, by omega, by go_num, hno2, hBq⟩, rfl⟩)
          case measure => simp [intOf]
        | true =>
          have hcl := sign_le hsg
          have hSc := HS.out c
          rw [hsg] at hSc
          have hYc := fun w1 => HY.out c w1 hcl
          have HSc := Lib.hid hSc
          have HYc := Lib.hid hYc
          cases heq : ((encB c).toList == (s.extract i (i + 3)).toList) with
          | false =>
            have hg : goodB s i 3 = false := by rw [Hgi.out, hsg, heq]; rfl
            have Hg := Lib.hid hg
            clear hSc hYc hsg hg
            refine wp_region_class (fun w' => Below w.heap.size w w') (by kernel_rfl) (by kernel_rfl) hB.drew ?_
            clear hB
            repeat (go_big_quiet_step (first | (intro _; rfl) | (intro hq; exact HSc.out _ hq) | (intro hq; exact HYc.out _ hq)))
            refine wpQuiet_nil ?_
            intro wq hBq
            go_wp2_with fail
            have hno2 : ∀ k, 1 ≤ k → k < 4 → goodB s i k = false := fun k h1 h2 => (Nat.lt_or_ge k 3).elim (fun hk => Hno.out k h1 hk) (fun hk => (show k = 3 by omega) ▸ Hg.out)
            go_roundw
            case rel => first | exact ⟨4, by omega, by omega, by go_num, hno2, hBq⟩ | ((repeat apply Exists.intro); exact ⟨⟨4, by omega, by omega, by go_num, hno2, hBq⟩, rfl⟩)
            case measure => simp [intOf]
          | true =>
            have hg : goodB s i 3 = true := by rw [Hgi.out, hsg, heq]; rfl
            have hfin := refAt_good s i 3 (by omega) (by omega) Hno.out hg
            rw [Hrf.out, Hcand.out] at hfin
            have Hfin := Lib.hid hfin
            clear hSc hYc hsg hg hfin
            refine wp_region_class (fun w' => Below w.heap.size w w') (by kernel_rfl) (by kernel_rfl) hB.drew ?_
            clear hB
            repeat (go_big_quiet_step (first | (intro _; rfl) | (intro hq; exact HSc.out _ hq) | (intro hq; exact HYc.out _ hq)))
            refine wpQuiet_nil ?_
            intro wq hBq
            clear heq
            by_cases hm : c = 65279
            · subst hm
              by_cases hi0 : 0 < i
              · have t3 : decide (0 < i) = true := by simp; omega
                go_wp2_with fail
                go_ret2
                exact ⟨by rw [Hfin.out, finV, if_pos ⟨rfl, hi0⟩]; rfl, hBq⟩
              · have t3 : decide (0 < i) = false := by simp; omega
                have hiz : i = 0 := by omega
                have Hiz := Lib.hid hiz
                clear hiz
                go_wp2_with fail
                go_ret2
                exact ⟨by rw [Hfin.out, finV, if_neg (by omega)]; rfl, hBq⟩
            · have t4 : ((c : Int) == 65279) = false := beq_eq_false_iff_ne.2 (by omega)
              go_wp2_with fail
              go_ret2
              exact ⟨by rw [Hfin.out, finV, if_neg (by omega)]; rfl, hBq⟩
      · have hrf : rf = (-1, 1) := by rw [← Hrf.out]; exact refAt_none s i (fun k h1 h2 => (Nat.lt_or_ge k 3).elim (fun hk => Hno.out k h1 hk) (fun hk => good_far s i k (by omega)))
        have H2 := Lib.hid hrf
        have hle2 : decide ((3 : Int) ≤ (s.size : Int) - i) = false := decide_eq_false hle
        clear hrf
        go_wp2_with fail
        go_ret2
        exact ⟨by rw [H2.out]; rfl, hB⟩
    · by_cases hle : (4 : Int) ≤ (s.size : Int) - i
      · obtain ⟨b0, hb0⟩ : ∃ b0, b0 = (s[i]'hi).toNat := ⟨_, rfl⟩
        have hbb0 : b0 < 256 := by rw [hb0]; exact (s[i]'hi).toNat_lt
        have hr0 : (s[i]'hi).toNat = b0 := hb0.symm
        have hi1 : i + 1 < s.size := by omega
        obtain ⟨b1, hb1⟩ : ∃ b1, b1 = (s[i + 1]'hi1).toNat := ⟨_, rfl⟩
        have hbb1 : b1 < 256 := by rw [hb1]; exact (s[i + 1]'hi1).toNat_lt
        have hr1 : (s[i + 1]'hi1).toNat = b1 := hb1.symm
        have hi2 : i + 2 < s.size := by omega
        obtain ⟨b2, hb2⟩ : ∃ b2, b2 = (s[i + 2]'hi2).toNat := ⟨_, rfl⟩
        have hbb2 : b2 < 256 := by rw [hb2]; exact (s[i + 2]'hi2).toNat_lt
        have hr2 : (s[i + 2]'hi2).toNat = b2 := hb2.symm
        have hi3 : i + 3 < s.size := by omega
        obtain ⟨b3, hb3⟩ : ∃ b3, b3 = (s[i + 3]'hi3).toNat := ⟨_, rfl⟩
        have hbb3 : b3 < 256 := by rw [hb3]; exact (s[i + 3]'hi3).toNat_lt
        have hr3 : (s[i + 3]'hi3).toNat = b3 := hb3.symm
        clear hb0 hb1 hb2 hb3
        obtain ⟨c, hc⟩ : ∃ c : Nat, c = 64 * (64 * (64 * (b0 % 8) + b1 % 64) + b2 % 64) + b3 % 64 := ⟨_, rfl⟩
        have hcand : cand s i 4 = c := by simp only [cand, get_is s i hi, get_is s (i + 1) hi1, get_is s (i + 2) hi2, get_is s (i + 3) hi3, hr0, hr1, hr2, hr3]; exact hc.symm
        have hcI : 64 * (64 * (64 * ((b0 : Int) % 8) + (b1 : Int) % 64) + (b2 : Int) % 64) + (b3 : Int) % 64 = (c : Int) := by rw [hc]; try omega
        have hgi := good_is (m := 4) hle hcand
        have HcI := Lib.hid hcI
        have Hcand := Lib.hid hcand
        have Hgi := Lib.hid hgi
        clear hc hcand hcI hgi
        go_wp2_with fail
        refine wp_loop_rounds 4 ?_
        rw [rounds_succ]
        go_wp2_with fail
        rw [rounds_succ]
        go_wp2_with fail
        rw [rounds_succ]
        go_wp2_with fail
        rw [rounds_succ]
        go_wp2_with fail
        rw [HcI.out]
        clear HcI hr0 hbb0 hr1 hbb1 hr2 hbb2 hr3 hbb3
        cases hsg : isSign c with
        | false =>
          have hg : goodB s i 4 = false := by rw [Hgi.out, hsg]; rfl
          have hSc := HS.out c
          rw [hsg] at hSc
          have HSc := Lib.hid hSc
          have Hg := Lib.hid hg
          clear hSc hsg hg
          refine wp_region_class (fun w' => Below w.heap.size w w') (by kernel_rfl) (by kernel_rfl) hB.drew ?_
          clear hB
          repeat (go_big_quiet_step (first | (intro _; rfl) | (intro hq; exact HSc.out _ hq)))
          refine wpQuiet_nil ?_
          intro wq hBq
          go_wp2_with fail
          have hno2 : ∀ k, 1 ≤ k → k < 5 → goodB s i k = false := fun k h1 h2 => (Nat.lt_or_ge k 4).elim (fun hk => Hno.out k h1 hk) (fun hk => (show k = 4 by omega) ▸ Hg.out)
          go_roundw
          case rel => first | exact ⟨5, by omega, by omega, by go_num, hno2, hBq⟩ | ((repeat apply Exists.intro); exact ⟨⟨5, by omega, by omega, by go_num, hno2, hBq⟩, rfl⟩)
          case measure => simp [intOf]
        | true =>
          have hcl := sign_le hsg
          have hSc := HS.out c
          rw [hsg] at hSc
          have hYc := fun w1 => HY.out c w1 hcl
          have HSc := Lib.hid hSc
          have HYc := Lib.hid hYc
          cases heq : ((encB c).toList == (s.extract i (i + 4)).toList) with
          | false =>
            have hg : goodB s i 4 = false := by rw [Hgi.out, hsg, heq]; rfl
            have Hg := Lib.hid hg
            clear hSc hYc hsg hg
            refine wp_region_class (fun w' => Below w.heap.size w w') (by kernel_rfl) (by kernel_rfl) hB.drew ?_
            clear hB
            repeat (go_big_quiet_step (first | (intro _; rfl) | (intro hq; exact HSc.out _ hq) | (intro hq; exact HYc.out _ hq)))
            refine wpQuiet_nil ?_
            intro wq hBq
            go_wp2_with fail
            have hno2 : ∀ k, 1 ≤ k → k < 5 → goodB s i k = false := fun k h1 h2 => (Nat.lt_or_ge k 4).elim (fun hk => Hno.out k h1 hk) (fun hk => (show k = 4 by omega) ▸ Hg.out)
            go_roundw
            case rel => first | exact ⟨5, by omega, by omega, by go_num, hno2, hBq⟩ | ((repeat apply Exists.intro); exact ⟨⟨5, by omega, by omega, by go_num, hno2, hBq⟩, rfl⟩)
            case measure => simp [intOf]
          | true =>
            have hg : goodB s i 4 = true := by rw [Hgi.out, hsg, heq]; rfl
            have hfin := refAt_good s i 4 (by omega) (by omega) Hno.out hg
            rw [Hrf.out, Hcand.out] at hfin
            have Hfin := Lib.hid hfin
            clear hSc hYc hsg hg hfin
            refine wp_region_class (fun w' => Below w.heap.size w w') (by kernel_rfl) (by kernel_rfl) hB.drew ?_
            clear hB
            repeat (go_big_quiet_step (first | (intro _; rfl) | (intro hq; exact HSc.out _ hq) | (intro hq; exact HYc.out _ hq)))
            refine wpQuiet_nil ?_
            intro wq hBq
            clear heq
            by_cases hm : c = 65279
            · subst hm
              by_cases hi0 : 0 < i
              · have t3 : decide (0 < i) = true := by simp; omega
                go_wp2_with fail
                go_ret2
                exact ⟨by rw [Hfin.out, finV, if_pos ⟨rfl, hi0⟩]; rfl, hBq⟩
              · have t3 : decide (0 < i) = false := by simp; omega
                have hiz : i = 0 := by omega
                have Hiz := Lib.hid hiz
                clear hiz
                go_wp2_with fail
                go_ret2
                exact ⟨by rw [Hfin.out, finV, if_neg (by omega)]; rfl, hBq⟩
            · have t4 : ((c : Int) == 65279) = false := beq_eq_false_iff_ne.2 (by omega)
              go_wp2_with fail
              go_ret2
              exact ⟨by rw [Hfin.out, finV, if_neg (by omega)]; rfl, hBq⟩
      · have hrf : rf = (-1, 1) := by rw [← Hrf.out]; exact refAt_none s i (fun k h1 h2 => (Nat.lt_or_ge k 4).elim (fun hk => Hno.out k h1 hk) (fun hk => good_far s i k (by omega)))
        have H2 := Lib.hid hrf
        have hle2 : decide ((4 : Int) ≤ (s.size : Int) - i) = false := decide_eq_false hle
        clear hrf
        go_wp2_with fail
        go_ret2
        exact ⟨by rw [H2.out]; rfl, hB⟩
    · have hrf : rf = (-1, 1) := by rw [← Hrf.out]; exact refAt_none s i (fun k h1 h2 => Hno.out k h1 (by omega))
      have H2 := Lib.hid hrf
      clear hrf
      go_wp2_with fail
      go_ret2
      exact ⟨by rw [H2.out]; rfl, hB⟩
end Go.Proofs.YtejogobhnbjpdaaDoor
