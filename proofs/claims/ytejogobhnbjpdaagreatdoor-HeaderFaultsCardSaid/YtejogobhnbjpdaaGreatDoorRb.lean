/- Walks: the document's numbers. -/
import Derived.Test.YtejogobhnbjpdaaGreatDoorRa
namespace Go.Proofs.YtejogobhnbjpdaaGreatDoor
set_option linter.unusedVariables false
set_option linter.unusedSimpArgs false
open Go.ChangeShapes Go.WideShapes Go.ChangeAt Go.RowKit

theorem hex_pre {s : ByteArray} {q : Nat} (hq : q ≤ s.size) : hexP s q = (pre s q [48, 120] || pre s q [48, 88]) := by
  rw [Bool.eq_iff_iff, Bool.or_eq_true, pre2 s q _ _ hq, pre2 s q _ _ hq]
  unfold hexP
  simp only [Bool.and_eq_true, Bool.or_eq_true, decide_eq_true_eq]
  constructor
  · rintro ⟨h1, h2, h3 | h3⟩
    · exact .inl ⟨h1, h2, h3⟩
    · exact .inr ⟨h1, h2, h3⟩
  · rintro (⟨h1, h2, h3⟩ | ⟨h1, h2, h3⟩)
    · exact ⟨h1, h2, .inl h3⟩
    · exact ⟨h1, h2, .inr h3⟩
theorem byt_at2 (s : ByteArray) (j : Nat) (h : j < s.size) : (s[j]'h).toNat = byt s j := by unfold byt; rw [get_is s j h]
set_option maxRecDepth 100000 in
set_option maxHeartbeats 10000000 in
theorem refNumber_any (s : ByteArray) (at_ : Nat) (w : World) (hs : s.size ≤ 1048576) (ha : at_ < s.size) (hd : byt s at_ = 46 ∨ (48 ≤ byt s at_ ∧ byt s at_ ≤ 57)) :
    Calls Tryz.prog 56 #[.string s, .int .i64 at_] w fun e w' => e = .returned (.int .i64 ((numE s (hexP s at_) (at_ + 1) - at_ : Nat))) ∧ w = w' := by
  have hx := hex_pre (Nat.le_of_lt ha)
  have HB1 := Lib.hid (fun w1 => begins_any s ⟨#[48, 120]⟩ at_ w1 hs (by decide) (Nat.le_of_lt ha))
  have HB2 := Lib.hid (fun w1 => begins_any s ⟨#[48, 88]⟩ at_ w1 hs (by decide) (Nat.le_of_lt ha))
  have hp1 : pre s at_ (⟨#[48, 120]⟩ : ByteArray).data.toList = pre s at_ [48, 120] := rfl
  have hp2 : pre s at_ (⟨#[48, 88]⟩ : ByteArray).data.toList = pre s at_ [48, 88] := rfl
  rw [hp1] at HB1
  rw [hp2] at HB2
  have Hge := Lib.hid (fun hex => numE_ge s hex _ (at_ + 1) (Nat.le_refl _))
  have Hd := Lib.hid hd
  generalize hexP s at_ = hex at *
  generalize pre s at_ [48, 120] = b1 at *
  generalize pre s at_ [48, 88] = b2 at *
  clear hp1 hp2 hd
  go_enter Tryz.func56, Tryz.ntmps56
  cases b1 with
  | true =>
    have hx2 : hex = true := hx
    clear hx
    subst hx2
    go_wp2_with fail
    refine (HB1.out _).mono ?_
    rintro r w1 ⟨rfl, rfl⟩
    go_wp2_with fail
    go_loopg [6] (s.size - at_) (fun g nv wr => ∃ n : Nat, at_ + n + g = s.size ∧ nv = .int .i64 n ∧ (n = 0 ∨ (1 ≤ n ∧ numE s true (at_ + 1) = numE s true (at_ + n))) ∧ w = wr)
    case atStart => exact ⟨0, by omega, rfl, .inl rfl, rfl⟩
    case round =>
      obtain ⟨n, hng, rfl, hor, rfl⟩ := hrel
      have hcast : ((at_ : Int) + (n : Int)).toNat = at_ + n := by omega
      by_cases hq : at_ + n < s.size
      case neg =>
        have hqI : ¬ (at_ : Int) + (n : Int) < (s.size : Int) := by omega
        have HN : Hid (numE s true (at_ + 1) = at_ + n) := Lib.hid (by
          rcases hor with h | ⟨h1, h2⟩
          · omega
          · rw [h2, numE, if_neg hq])
        clear hor
        go_wp2_with fail
        go_ret
        exact ⟨by rw [HN.out, Nat.add_sub_cancel_left]; rfl, rfl⟩
      have hqI : (at_ : Int) + (n : Int) < (s.size : Int) := by omega
      have hcb := byt_at2 s (at_ + n) hq
      have h8 : (s[at_ + n]'hq).toNat ≤ 255 := by have := (s[at_ + n]'hq).toNat_lt; omega
      have HL := Lib.hid (fun w1 => refLetter_any (((s[at_ + n]'hq).toNat : Nat) : Int) w1)
      have HD := Lib.hid (fun w1 => refDigit_any (((s[at_ + n]'hq).toNat : Nat) : Int) w1)
      rcases hor with rfl | ⟨hn1, hE⟩
      · have hcb0 := byt_at2 s at_ ha
        have h80 : (s[at_]'ha).toNat ≤ 255 := by have := (s[at_]'ha).toNat_lt; omega
        have HL := Lib.hid (fun w1 => refLetter_any (((s[at_]'ha).toNat : Nat) : Int) w1)
        have HD := Lib.hid (fun w1 => refDigit_any (((s[at_]'ha).toNat : Nat) : Int) w1)
        clear hcb h8
        rcases Hd.out with h46 | hdg
        · have hc : (s[at_]'ha).toNat = 46 := by rw [hcb0]; exact h46
          clear hcb0
          have c46 : (((s[at_]'ha).toNat : Int) == 46) = true := beq_iff_eq.2 (by omega)
          have c43 : (((s[at_]'ha).toNat : Int) == 43) = false := beq_eq_false_iff_ne.2 (by omega)
          have c45 : (((s[at_]'ha).toNat : Int) == 45) = false := beq_eq_false_iff_ne.2 (by omega)
          clear hc h46
          go_wp2_with fail
          go_roundg (gk - 1)
          case measure => omega
          case rel => exact ⟨0 + 1, by omega, by go_num, .inr ⟨by omega, rfl⟩, rfl⟩
        · have hc : 48 ≤ (s[at_]'ha).toNat ∧ (s[at_]'ha).toNat ≤ 57 := by rw [hcb0]; exact hdg
          have hl : letR ((((s[at_]'ha).toNat : Nat)) : Int) = false := decide_eq_false (by omega)
          have hdd : digR ((((s[at_]'ha).toNat : Nat)) : Int) = true := decide_eq_true (by omega)
          have h128 : (((s[at_]'ha).toNat : Nat) : Int) < 128 := by omega
          rw [hl] at HL
          rw [hdd] at HD
          clear hl hdd hcb0
          have c46 : (((s[at_]'ha).toNat : Int) == 46) = false := beq_eq_false_iff_ne.2 (by omega)
          have c43 : (((s[at_]'ha).toNat : Int) == 43) = false := beq_eq_false_iff_ne.2 (by omega)
          have c45 : (((s[at_]'ha).toNat : Int) == 45) = false := beq_eq_false_iff_ne.2 (by omega)
          clear hc hdg
          go_wp2_with fail
          refine (HL.out _).mono ?_
          rintro r w1 ⟨rfl, rfl⟩
          go_wp2_with fail
          refine (HD.out _).mono ?_
          rintro r w1 ⟨rfl, rfl⟩
          go_wp2_with fail
          go_roundg (gk - 1)
          case measure => omega
          case rel => exact ⟨0 + 1, by omega, by go_num, .inr ⟨by omega, rfl⟩, rfl⟩
      · have hq1 : at_ + n - 1 < s.size := by omega
        have hpb := byt_at2 s (at_ + n - 1) hq1
        have hp8 : (s[at_ + n - 1]'hq1).toNat ≤ 255 := by have := (s[at_ + n - 1]'hq1).toNat_lt; omega
        have htn1 : ((at_ : Int) + (n : Int) - 1).toNat = at_ + n - 1 := by omega
        have hn0 : (0 : Int) < (n : Int) := by omega
        have HU := Lib.hid (show numE s true (at_ + n) = if inNum (s[at_ + n - 1]'hq1).toNat (s[at_ + n]'hq).toNat true = true then numE s true (at_ + n + 1) else at_ + n by rw [numE, if_pos hq, hpb, hcb])
        have HY := Lib.hid (show inNum (s[at_ + n - 1]'hq1).toNat (s[at_ + n]'hq).toNat true = true → numE s true (at_ + 1) = numE s true (at_ + (n + 1)) from fun h => by rw [hE, HU.out, if_pos h]; rfl)
        have HZ := Lib.hid (show ¬ inNum (s[at_ + n - 1]'hq1).toNat (s[at_ + n]'hq).toNat true = true → numE s true (at_ + 1) = at_ + n from fun h => by rw [hE, HU.out, if_neg h])
        clear hE hcb hpb
        by_cases k46 : (s[at_ + n]'hq).toNat = 46
        · have HN := Lib.hid (HY.out (by unfold inNum; rw [if_pos k46]))
          have c46 : (((s[at_ + n]'hq).toNat : Int) == 46) = true := beq_iff_eq.2 (by omega)
          have c43 : (((s[at_ + n]'hq).toNat : Int) == 43) = false := beq_eq_false_iff_ne.2 (by omega)
          have c45 : (((s[at_ + n]'hq).toNat : Int) == 45) = false := beq_eq_false_iff_ne.2 (by omega)
          clear k46
          go_wp2_with fail
          go_roundg (gk - 1)
          case measure => omega
          case rel => exact ⟨n + 1, by omega, by go_num, .inr ⟨by omega, by exact HN.out⟩, rfl⟩
        by_cases k4 : (s[at_ + n]'hq).toNat = 43 ∨ (s[at_ + n]'hq).toNat = 45
        · have hl : letR ((((s[at_ + n]'hq).toNat : Nat)) : Int) = false := decide_eq_false (by omega)
          have hdd : digR ((((s[at_ + n]'hq).toNat : Nat)) : Int) = false := decide_eq_false (by omega)
          have h128 : (((s[at_ + n]'hq).toNat : Nat) : Int) < 128 := by omega
          rw [hl] at HL
          rw [hdd] at HD
          clear hl hdd
          have hin : inNum (s[at_ + n - 1]'hq1).toNat (s[at_ + n]'hq).toNat true = (decide ((s[at_ + n - 1]'hq1).toNat = 112 ∨ (s[at_ + n - 1]'hq1).toNat = 80) || (!true && decide ((s[at_ + n - 1]'hq1).toNat = 101 ∨ (s[at_ + n - 1]'hq1).toNat = 69))) := by unfold inNum; rw [if_neg k46, if_pos k4]
          rcases k4 with k4 | k4
          · have c46 : (((s[at_ + n]'hq).toNat : Int) == 46) = false := beq_eq_false_iff_ne.2 (by omega)
            have c43 : (((s[at_ + n]'hq).toNat : Int) == 43) = true := beq_iff_eq.2 (by omega)
            have c45 : (((s[at_ + n]'hq).toNat : Int) == 45) = false := beq_eq_false_iff_ne.2 (by omega)
            rcases (by omega : (s[at_ + n - 1]'hq1).toNat = 112 ∨ (s[at_ + n - 1]'hq1).toNat = 80 ∨ (s[at_ + n - 1]'hq1).toNat = 101 ∨ (s[at_ + n - 1]'hq1).toNat = 69 ∨ ((s[at_ + n - 1]'hq1).toNat ≠ 112 ∧ (s[at_ + n - 1]'hq1).toNat ≠ 80 ∧ (s[at_ + n - 1]'hq1).toNat ≠ 101 ∧ (s[at_ + n - 1]'hq1).toNat ≠ 69)) with kp | kp | kp | kp | kp
            · have p112 : (((s[at_ + n - 1]'hq1).toNat : Int) == 112) = true := beq_iff_eq.2 (by omega)
              have p80 : (((s[at_ + n - 1]'hq1).toNat : Int) == 80) = false := beq_eq_false_iff_ne.2 (by omega)
              have p101 : (((s[at_ + n - 1]'hq1).toNat : Int) == 101) = false := beq_eq_false_iff_ne.2 (by omega)
              have p69 : (((s[at_ + n - 1]'hq1).toNat : Int) == 69) = false := beq_eq_false_iff_ne.2 (by omega)
              have HN := Lib.hid (HY.out (by rw [hin]; simp [kp]))
              clear hin kp k46 k4
              go_wp2_with fail
              refine (HL.out _).mono ?_
              rintro r w1 ⟨rfl, rfl⟩
              go_wp2_with fail
              refine (HD.out _).mono ?_
              rintro r w1 ⟨rfl, rfl⟩
              go_wp2_with fail
              go_roundg (gk - 1)
              case measure => omega
              case rel => exact ⟨n + 1, by omega, by go_num, .inr ⟨by omega, by exact HN.out⟩, rfl⟩
            · have p112 : (((s[at_ + n - 1]'hq1).toNat : Int) == 112) = false := beq_eq_false_iff_ne.2 (by omega)
              have p80 : (((s[at_ + n - 1]'hq1).toNat : Int) == 80) = true := beq_iff_eq.2 (by omega)
              have p101 : (((s[at_ + n - 1]'hq1).toNat : Int) == 101) = false := beq_eq_false_iff_ne.2 (by omega)
              have p69 : (((s[at_ + n - 1]'hq1).toNat : Int) == 69) = false := beq_eq_false_iff_ne.2 (by omega)
              have HN := Lib.hid (HY.out (by rw [hin]; simp [kp]))
              clear hin kp k46 k4
              go_wp2_with fail
              refine (HL.out _).mono ?_
              rintro r w1 ⟨rfl, rfl⟩
              go_wp2_with fail
              refine (HD.out _).mono ?_
              rintro r w1 ⟨rfl, rfl⟩
              go_wp2_with fail
              go_roundg (gk - 1)
              case measure => omega
              case rel => exact ⟨n + 1, by omega, by go_num, .inr ⟨by omega, by exact HN.out⟩, rfl⟩
            · have p112 : (((s[at_ + n - 1]'hq1).toNat : Int) == 112) = false := beq_eq_false_iff_ne.2 (by omega)
              have p80 : (((s[at_ + n - 1]'hq1).toNat : Int) == 80) = false := beq_eq_false_iff_ne.2 (by omega)
              have p101 : (((s[at_ + n - 1]'hq1).toNat : Int) == 101) = true := beq_iff_eq.2 (by omega)
              have p69 : (((s[at_ + n - 1]'hq1).toNat : Int) == 69) = false := beq_eq_false_iff_ne.2 (by omega)
              have HN := Lib.hid (HZ.out (by rw [hin]; simp [kp]))
              clear hin kp k46 k4
              go_wp2_with fail
              refine (HL.out _).mono ?_
              rintro r w1 ⟨rfl, rfl⟩
              go_wp2_with fail
              refine (HD.out _).mono ?_
              rintro r w1 ⟨rfl, rfl⟩
              go_wp2_with fail
              go_ret
              exact ⟨by rw [HN.out, Nat.add_sub_cancel_left]; rfl, rfl⟩
            · have p112 : (((s[at_ + n - 1]'hq1).toNat : Int) == 112) = false := beq_eq_false_iff_ne.2 (by omega)
              have p80 : (((s[at_ + n - 1]'hq1).toNat : Int) == 80) = false := beq_eq_false_iff_ne.2 (by omega)
              have p101 : (((s[at_ + n - 1]'hq1).toNat : Int) == 101) = false := beq_eq_false_iff_ne.2 (by omega)
              have p69 : (((s[at_ + n - 1]'hq1).toNat : Int) == 69) = true := beq_iff_eq.2 (by omega)
              have HN := Lib.hid (HZ.out (by rw [hin]; simp [kp]))
              clear hin kp k46 k4
              go_wp2_with fail
              refine (HL.out _).mono ?_
              rintro r w1 ⟨rfl, rfl⟩
              go_wp2_with fail
              refine (HD.out _).mono ?_
              rintro r w1 ⟨rfl, rfl⟩
              go_wp2_with fail
              go_ret
              exact ⟨by rw [HN.out, Nat.add_sub_cancel_left]; rfl, rfl⟩
            · have p112 : (((s[at_ + n - 1]'hq1).toNat : Int) == 112) = false := beq_eq_false_iff_ne.2 (by omega)
              have p80 : (((s[at_ + n - 1]'hq1).toNat : Int) == 80) = false := beq_eq_false_iff_ne.2 (by omega)
              have p101 : (((s[at_ + n - 1]'hq1).toNat : Int) == 101) = false := beq_eq_false_iff_ne.2 (by omega)
              have p69 : (((s[at_ + n - 1]'hq1).toNat : Int) == 69) = false := beq_eq_false_iff_ne.2 (by omega)
              have HN := Lib.hid (HZ.out (by rw [hin]; simp [kp.1, kp.2.1, kp.2.2.1, kp.2.2.2]))
              clear hin kp k46 k4
              go_wp2_with fail
              refine (HL.out _).mono ?_
              rintro r w1 ⟨rfl, rfl⟩
              go_wp2_with fail
              refine (HD.out _).mono ?_
              rintro r w1 ⟨rfl, rfl⟩
              go_wp2_with fail
              go_ret
              exact ⟨by rw [HN.out, Nat.add_sub_cancel_left]; rfl, rfl⟩
          · have c46 : (((s[at_ + n]'hq).toNat : Int) == 46) = false := beq_eq_false_iff_ne.2 (by omega)
            have c43 : (((s[at_ + n]'hq).toNat : Int) == 43) = false := beq_eq_false_iff_ne.2 (by omega)
            have c45 : (((s[at_ + n]'hq).toNat : Int) == 45) = true := beq_iff_eq.2 (by omega)
            rcases (by omega : (s[at_ + n - 1]'hq1).toNat = 112 ∨ (s[at_ + n - 1]'hq1).toNat = 80 ∨ (s[at_ + n - 1]'hq1).toNat = 101 ∨ (s[at_ + n - 1]'hq1).toNat = 69 ∨ ((s[at_ + n - 1]'hq1).toNat ≠ 112 ∧ (s[at_ + n - 1]'hq1).toNat ≠ 80 ∧ (s[at_ + n - 1]'hq1).toNat ≠ 101 ∧ (s[at_ + n - 1]'hq1).toNat ≠ 69)) with kp | kp | kp | kp | kp
            · have p112 : (((s[at_ + n - 1]'hq1).toNat : Int) == 112) = true := beq_iff_eq.2 (by omega)
              have p80 : (((s[at_ + n - 1]'hq1).toNat : Int) == 80) = false := beq_eq_false_iff_ne.2 (by omega)
              have p101 : (((s[at_ + n - 1]'hq1).toNat : Int) == 101) = false := beq_eq_false_iff_ne.2 (by omega)
              have p69 : (((s[at_ + n - 1]'hq1).toNat : Int) == 69) = false := beq_eq_false_iff_ne.2 (by omega)
              have HN := Lib.hid (HY.out (by rw [hin]; simp [kp]))
              clear hin kp k46 k4
              go_wp2_with fail
              refine (HL.out _).mono ?_
              rintro r w1 ⟨rfl, rfl⟩
              go_wp2_with fail
              refine (HD.out _).mono ?_
              rintro r w1 ⟨rfl, rfl⟩
              go_wp2_with fail
              go_roundg (gk - 1)
              case measure => omega
              case rel => exact ⟨n + 1, by omega, by go_num, .inr ⟨by omega, by exact HN.out⟩, rfl⟩
            · have p112 : (((s[at_ + n - 1]'hq1).toNat : Int) == 112) = false := beq_eq_false_iff_ne.2 (by omega)
              have p80 : (((s[at_ + n - 1]'hq1).toNat : Int) == 80) = true := beq_iff_eq.2 (by omega)
              have p101 : (((s[at_ + n - 1]'hq1).toNat : Int) == 101) = false := beq_eq_false_iff_ne.2 (by omega)
              have p69 : (((s[at_ + n - 1]'hq1).toNat : Int) == 69) = false := beq_eq_false_iff_ne.2 (by omega)
              have HN := Lib.hid (HY.out (by rw [hin]; simp [kp]))
              clear hin kp k46 k4
              go_wp2_with fail
              refine (HL.out _).mono ?_
              rintro r w1 ⟨rfl, rfl⟩
              go_wp2_with fail
              refine (HD.out _).mono ?_
              rintro r w1 ⟨rfl, rfl⟩
              go_wp2_with fail
              go_roundg (gk - 1)
              case measure => omega
              case rel => exact ⟨n + 1, by omega, by go_num, .inr ⟨by omega, by exact HN.out⟩, rfl⟩
            · have p112 : (((s[at_ + n - 1]'hq1).toNat : Int) == 112) = false := beq_eq_false_iff_ne.2 (by omega)
              have p80 : (((s[at_ + n - 1]'hq1).toNat : Int) == 80) = false := beq_eq_false_iff_ne.2 (by omega)
              have p101 : (((s[at_ + n - 1]'hq1).toNat : Int) == 101) = true := beq_iff_eq.2 (by omega)
              have p69 : (((s[at_ + n - 1]'hq1).toNat : Int) == 69) = false := beq_eq_false_iff_ne.2 (by omega)
              have HN := Lib.hid (HZ.out (by rw [hin]; simp [kp]))
              clear hin kp k46 k4
              go_wp2_with fail
              refine (HL.out _).mono ?_
              rintro r w1 ⟨rfl, rfl⟩
              go_wp2_with fail
              refine (HD.out _).mono ?_
              rintro r w1 ⟨rfl, rfl⟩
              go_wp2_with fail
              go_ret
              exact ⟨by rw [HN.out, Nat.add_sub_cancel_left]; rfl, rfl⟩
            · have p112 : (((s[at_ + n - 1]'hq1).toNat : Int) == 112) = false := beq_eq_false_iff_ne.2 (by omega)
              have p80 : (((s[at_ + n - 1]'hq1).toNat : Int) == 80) = false := beq_eq_false_iff_ne.2 (by omega)
              have p101 : (((s[at_ + n - 1]'hq1).toNat : Int) == 101) = false := beq_eq_false_iff_ne.2 (by omega)
              have p69 : (((s[at_ + n - 1]'hq1).toNat : Int) == 69) = true := beq_iff_eq.2 (by omega)
              have HN := Lib.hid (HZ.out (by rw [hin]; simp [kp]))
              clear hin kp k46 k4
              go_wp2_with fail
              refine (HL.out _).mono ?_
              rintro r w1 ⟨rfl, rfl⟩
              go_wp2_with fail
              refine (HD.out _).mono ?_
              rintro r w1 ⟨rfl, rfl⟩
              go_wp2_with fail
              go_ret
              exact ⟨by rw [HN.out, Nat.add_sub_cancel_left]; rfl, rfl⟩
            · have p112 : (((s[at_ + n - 1]'hq1).toNat : Int) == 112) = false := beq_eq_false_iff_ne.2 (by omega)
              have p80 : (((s[at_ + n - 1]'hq1).toNat : Int) == 80) = false := beq_eq_false_iff_ne.2 (by omega)
              have p101 : (((s[at_ + n - 1]'hq1).toNat : Int) == 101) = false := beq_eq_false_iff_ne.2 (by omega)
              have p69 : (((s[at_ + n - 1]'hq1).toNat : Int) == 69) = false := beq_eq_false_iff_ne.2 (by omega)
              have HN := Lib.hid (HZ.out (by rw [hin]; simp [kp.1, kp.2.1, kp.2.2.1, kp.2.2.2]))
              clear hin kp k46 k4
              go_wp2_with fail
              refine (HL.out _).mono ?_
              rintro r w1 ⟨rfl, rfl⟩
              go_wp2_with fail
              refine (HD.out _).mono ?_
              rintro r w1 ⟨rfl, rfl⟩
              go_wp2_with fail
              go_ret
              exact ⟨by rw [HN.out, Nat.add_sub_cancel_left]; rfl, rfl⟩
        have hin : inNum (s[at_ + n - 1]'hq1).toNat (s[at_ + n]'hq).toNat true = (decide ((s[at_ + n]'hq).toNat < 128) && (letR ((((s[at_ + n]'hq).toNat : Nat)) : Int) || digR ((((s[at_ + n]'hq).toNat : Nat)) : Int))) := by unfold inNum; rw [if_neg k46, if_neg k4]
        have c46 : (((s[at_ + n]'hq).toNat : Int) == 46) = false := beq_eq_false_iff_ne.2 (by omega)
        have c43 : (((s[at_ + n]'hq).toNat : Int) == 43) = false := beq_eq_false_iff_ne.2 (by omega)
        have c45 : (((s[at_ + n]'hq).toNat : Int) == 45) = false := beq_eq_false_iff_ne.2 (by omega)
        by_cases k128 : (s[at_ + n]'hq).toNat < 128
        · have h128 : (((s[at_ + n]'hq).toNat : Nat) : Int) < 128 := by omega
          rw [decide_eq_true k128, Bool.true_and] at hin
          cases hl : letR ((((s[at_ + n]'hq).toNat : Nat)) : Int) with
          | true =>
            have HN := Lib.hid (HY.out (by rw [hin, hl]; rfl))
            rw [hl] at HL
            clear hl hin k46 k4 k128
            go_wp2_with fail
            refine (HL.out _).mono ?_
            rintro r w1 ⟨rfl, rfl⟩
            go_wp2_with fail
            go_roundg (gk - 1)
            case measure => omega
            case rel => exact ⟨n + 1, by omega, by go_num, .inr ⟨by omega, by exact HN.out⟩, rfl⟩
          | false =>
            cases hdd : digR ((((s[at_ + n]'hq).toNat : Nat)) : Int) with
            | true =>
              have HN := Lib.hid (HY.out (by rw [hin, hl, hdd]; rfl))
              rw [hl] at HL
              rw [hdd] at HD
              clear hl hdd hin k46 k4 k128
              go_wp2_with fail
              refine (HL.out _).mono ?_
              rintro r w1 ⟨rfl, rfl⟩
              go_wp2_with fail
              refine (HD.out _).mono ?_
              rintro r w1 ⟨rfl, rfl⟩
              go_wp2_with fail
              go_roundg (gk - 1)
              case measure => omega
              case rel => exact ⟨n + 1, by omega, by go_num, .inr ⟨by omega, by exact HN.out⟩, rfl⟩
            | false =>
              have HN := Lib.hid (HZ.out (by rw [hin, hl, hdd]; decide))
              rw [hl] at HL
              rw [hdd] at HD
              clear hl hdd hin k46 k4 k128
              go_wp2_with fail
              refine (HL.out _).mono ?_
              rintro r w1 ⟨rfl, rfl⟩
              go_wp2_with fail
              refine (HD.out _).mono ?_
              rintro r w1 ⟨rfl, rfl⟩
              go_wp2_with fail
              go_ret
              exact ⟨by rw [HN.out, Nat.add_sub_cancel_left]; rfl, rfl⟩
        · have h128 : ¬ (((s[at_ + n]'hq).toNat : Nat) : Int) < 128 := by omega
          have HN := Lib.hid (HZ.out (by rw [hin, decide_eq_false k128]; simp))
          clear hin k46 k4 k128
          go_wp2_with fail
          go_ret
          exact ⟨by rw [HN.out, Nat.add_sub_cancel_left]; rfl, rfl⟩
  | false =>
    cases b2 with
    | true =>
      have hx2 : hex = true := hx
      clear hx
      subst hx2
      go_wp2_with fail
      refine (HB1.out _).mono ?_
      rintro r w1 ⟨rfl, rfl⟩
      go_wp2_with fail
      refine (HB2.out _).mono ?_
      rintro r w1 ⟨rfl, rfl⟩
      go_wp2_with fail
      go_loopg [6] (s.size - at_) (fun g nv wr => ∃ n : Nat, at_ + n + g = s.size ∧ nv = .int .i64 n ∧ (n = 0 ∨ (1 ≤ n ∧ numE s true (at_ + 1) = numE s true (at_ + n))) ∧ w = wr)
      case atStart => exact ⟨0, by omega, rfl, .inl rfl, rfl⟩
      case round =>
        obtain ⟨n, hng, rfl, hor, rfl⟩ := hrel
        have hcast : ((at_ : Int) + (n : Int)).toNat = at_ + n := by omega
        by_cases hq : at_ + n < s.size
        case neg =>
          have hqI : ¬ (at_ : Int) + (n : Int) < (s.size : Int) := by omega
          have HN : Hid (numE s true (at_ + 1) = at_ + n) := Lib.hid (by
            rcases hor with h | ⟨h1, h2⟩
            · omega
            · rw [h2, numE, if_neg hq])
          clear hor
          go_wp2_with fail
          go_ret
          exact ⟨by rw [HN.out, Nat.add_sub_cancel_left]; rfl, rfl⟩
        have hqI : (at_ : Int) + (n : Int) < (s.size : Int) := by omega
        have hcb := byt_at2 s (at_ + n) hq
        have h8 : (s[at_ + n]'hq).toNat ≤ 255 := by have := (s[at_ + n]'hq).toNat_lt; omega
        have HL := Lib.hid (fun w1 => refLetter_any (((s[at_ + n]'hq).toNat : Nat) : Int) w1)
        have HD := Lib.hid (fun w1 => refDigit_any (((s[at_ + n]'hq).toNat : Nat) : Int) w1)
        rcases hor with rfl | ⟨hn1, hE⟩
        · have hcb0 := byt_at2 s at_ ha
          have h80 : (s[at_]'ha).toNat ≤ 255 := by have := (s[at_]'ha).toNat_lt; omega
          have HL := Lib.hid (fun w1 => refLetter_any (((s[at_]'ha).toNat : Nat) : Int) w1)
          have HD := Lib.hid (fun w1 => refDigit_any (((s[at_]'ha).toNat : Nat) : Int) w1)
          clear hcb h8
          rcases Hd.out with h46 | hdg
          · have hc : (s[at_]'ha).toNat = 46 := by rw [hcb0]; exact h46
            clear hcb0
            have c46 : (((s[at_]'ha).toNat : Int) == 46) = true := beq_iff_eq.2 (by omega)
            have c43 : (((s[at_]'ha).toNat : Int) == 43) = false := beq_eq_false_iff_ne.2 (by omega)
            have c45 : (((s[at_]'ha).toNat : Int) == 45) = false := beq_eq_false_iff_ne.2 (by omega)
            clear hc h46
            go_wp2_with fail
            go_roundg (gk - 1)
            case measure => omega
            case rel => exact ⟨0 + 1, by omega, by go_num, .inr ⟨by omega, rfl⟩, rfl⟩
          · have hc : 48 ≤ (s[at_]'ha).toNat ∧ (s[at_]'ha).toNat ≤ 57 := by rw [hcb0]; exact hdg
            have hl : letR ((((s[at_]'ha).toNat : Nat)) : Int) = false := decide_eq_false (by omega)
            have hdd : digR ((((s[at_]'ha).toNat : Nat)) : Int) = true := decide_eq_true (by omega)
            have h128 : (((s[at_]'ha).toNat : Nat) : Int) < 128 := by omega
            rw [hl] at HL
            rw [hdd] at HD
            clear hl hdd hcb0
            have c46 : (((s[at_]'ha).toNat : Int) == 46) = false := beq_eq_false_iff_ne.2 (by omega)
            have c43 : (((s[at_]'ha).toNat : Int) == 43) = false := beq_eq_false_iff_ne.2 (by omega)
            have c45 : (((s[at_]'ha).toNat : Int) == 45) = false := beq_eq_false_iff_ne.2 (by omega)
            clear hc hdg
            go_wp2_with fail
            refine (HL.out _).mono ?_
            rintro r w1 ⟨rfl, rfl⟩
            go_wp2_with fail
            refine (HD.out _).mono ?_
            rintro r w1 ⟨rfl, rfl⟩
            go_wp2_with fail
            go_roundg (gk - 1)
            case measure => omega
            case rel => exact ⟨0 + 1, by omega, by go_num, .inr ⟨by omega, rfl⟩, rfl⟩
        · have hq1 : at_ + n - 1 < s.size := by omega
          have hpb := byt_at2 s (at_ + n - 1) hq1
          have hp8 : (s[at_ + n - 1]'hq1).toNat ≤ 255 := by have := (s[at_ + n - 1]'hq1).toNat_lt; omega
          have htn1 : ((at_ : Int) + (n : Int) - 1).toNat = at_ + n - 1 := by omega
          have hn0 : (0 : Int) < (n : Int) := by omega
          have HU := Lib.hid (show numE s true (at_ + n) = if inNum (s[at_ + n - 1]'hq1).toNat (s[at_ + n]'hq).toNat true = true then numE s true (at_ + n + 1) else at_ + n by rw [numE, if_pos hq, hpb, hcb])
          have HY := Lib.hid (show inNum (s[at_ + n - 1]'hq1).toNat (s[at_ + n]'hq).toNat true = true → numE s true (at_ + 1) = numE s true (at_ + (n + 1)) from fun h => by rw [hE, HU.out, if_pos h]; rfl)
          have HZ := Lib.hid (show ¬ inNum (s[at_ + n - 1]'hq1).toNat (s[at_ + n]'hq).toNat true = true → numE s true (at_ + 1) = at_ + n from fun h => by rw [hE, HU.out, if_neg h])
          clear hE hcb hpb
          by_cases k46 : (s[at_ + n]'hq).toNat = 46
          · have HN := Lib.hid (HY.out (by unfold inNum; rw [if_pos k46]))
            have c46 : (((s[at_ + n]'hq).toNat : Int) == 46) = true := beq_iff_eq.2 (by omega)
            have c43 : (((s[at_ + n]'hq).toNat : Int) == 43) = false := beq_eq_false_iff_ne.2 (by omega)
            have c45 : (((s[at_ + n]'hq).toNat : Int) == 45) = false := beq_eq_false_iff_ne.2 (by omega)
            clear k46
            go_wp2_with fail
            go_roundg (gk - 1)
            case measure => omega
            case rel => exact ⟨n + 1, by omega, by go_num, .inr ⟨by omega, by exact HN.out⟩, rfl⟩
          by_cases k4 : (s[at_ + n]'hq).toNat = 43 ∨ (s[at_ + n]'hq).toNat = 45
          · have hl : letR ((((s[at_ + n]'hq).toNat : Nat)) : Int) = false := decide_eq_false (by omega)
            have hdd : digR ((((s[at_ + n]'hq).toNat : Nat)) : Int) = false := decide_eq_false (by omega)
            have h128 : (((s[at_ + n]'hq).toNat : Nat) : Int) < 128 := by omega
            rw [hl] at HL
            rw [hdd] at HD
            clear hl hdd
            have hin : inNum (s[at_ + n - 1]'hq1).toNat (s[at_ + n]'hq).toNat true = (decide ((s[at_ + n - 1]'hq1).toNat = 112 ∨ (s[at_ + n - 1]'hq1).toNat = 80) || (!true && decide ((s[at_ + n - 1]'hq1).toNat = 101 ∨ (s[at_ + n - 1]'hq1).toNat = 69))) := by unfold inNum; rw [if_neg k46, if_pos k4]
            rcases k4 with k4 | k4
            · have c46 : (((s[at_ + n]'hq).toNat : Int) == 46) = false := beq_eq_false_iff_ne.2 (by omega)
              have c43 : (((s[at_ + n]'hq).toNat : Int) == 43) = true := beq_iff_eq.2 (by omega)
              have c45 : (((s[at_ + n]'hq).toNat : Int) == 45) = false := beq_eq_false_iff_ne.2 (by omega)
              rcases (by omega : (s[at_ + n - 1]'hq1).toNat = 112 ∨ (s[at_ + n - 1]'hq1).toNat = 80 ∨ (s[at_ + n - 1]'hq1).toNat = 101 ∨ (s[at_ + n - 1]'hq1).toNat = 69 ∨ ((s[at_ + n - 1]'hq1).toNat ≠ 112 ∧ (s[at_ + n - 1]'hq1).toNat ≠ 80 ∧ (s[at_ + n - 1]'hq1).toNat ≠ 101 ∧ (s[at_ + n - 1]'hq1).toNat ≠ 69)) with kp | kp | kp | kp | kp
              · have p112 : (((s[at_ + n - 1]'hq1).toNat : Int) == 112) = true := beq_iff_eq.2 (by omega)
                have p80 : (((s[at_ + n - 1]'hq1).toNat : Int) == 80) = false := beq_eq_false_iff_ne.2 (by omega)
                have p101 : (((s[at_ + n - 1]'hq1).toNat : Int) == 101) = false := beq_eq_false_iff_ne.2 (by omega)
                have p69 : (((s[at_ + n - 1]'hq1).toNat : Int) == 69) = false := beq_eq_false_iff_ne.2 (by omega)
                have HN := Lib.hid (HY.out (by rw [hin]; simp [kp]))
                clear hin kp k46 k4
                go_wp2_with fail
                refine (HL.out _).mono ?_
                rintro r w1 ⟨rfl, rfl⟩
                go_wp2_with fail
                refine (HD.out _).mono ?_
                rintro r w1 ⟨rfl, rfl⟩
                go_wp2_with fail
                go_roundg (gk - 1)
                case measure => omega
                case rel => exact ⟨n + 1, by omega, by go_num, .inr ⟨by omega, by exact HN.out⟩, rfl⟩
              · have p112 : (((s[at_ + n - 1]'hq1).toNat : Int) == 112) = false := beq_eq_false_iff_ne.2 (by omega)
                have p80 : (((s[at_ + n - 1]'hq1).toNat : Int) == 80) = true := beq_iff_eq.2 (by omega)
                have p101 : (((s[at_ + n - 1]'hq1).toNat : Int) == 101) = false := beq_eq_false_iff_ne.2 (by omega)
                have p69 : (((s[at_ + n - 1]'hq1).toNat : Int) == 69) = false := beq_eq_false_iff_ne.2 (by omega)
                have HN := Lib.hid (HY.out (by rw [hin]; simp [kp]))
                clear hin kp k46 k4
                go_wp2_with fail
                refine (HL.out _).mono ?_
                rintro r w1 ⟨rfl, rfl⟩
                go_wp2_with fail
                refine (HD.out _).mono ?_
                rintro r w1 ⟨rfl, rfl⟩
                go_wp2_with fail
                go_roundg (gk - 1)
                case measure => omega
                case rel => exact ⟨n + 1, by omega, by go_num, .inr ⟨by omega, by exact HN.out⟩, rfl⟩
              · have p112 : (((s[at_ + n - 1]'hq1).toNat : Int) == 112) = false := beq_eq_false_iff_ne.2 (by omega)
                have p80 : (((s[at_ + n - 1]'hq1).toNat : Int) == 80) = false := beq_eq_false_iff_ne.2 (by omega)
                have p101 : (((s[at_ + n - 1]'hq1).toNat : Int) == 101) = true := beq_iff_eq.2 (by omega)
                have p69 : (((s[at_ + n - 1]'hq1).toNat : Int) == 69) = false := beq_eq_false_iff_ne.2 (by omega)
                have HN := Lib.hid (HZ.out (by rw [hin]; simp [kp]))
                clear hin kp k46 k4
                go_wp2_with fail
                refine (HL.out _).mono ?_
                rintro r w1 ⟨rfl, rfl⟩
                go_wp2_with fail
                refine (HD.out _).mono ?_
                rintro r w1 ⟨rfl, rfl⟩
                go_wp2_with fail
                go_ret
                exact ⟨by rw [HN.out, Nat.add_sub_cancel_left]; rfl, rfl⟩
              · have p112 : (((s[at_ + n - 1]'hq1).toNat : Int) == 112) = false := beq_eq_false_iff_ne.2 (by omega)
                have p80 : (((s[at_ + n - 1]'hq1).toNat : Int) == 80) = false := beq_eq_false_iff_ne.2 (by omega)
                have p101 : (((s[at_ + n - 1]'hq1).toNat : Int) == 101) = false := beq_eq_false_iff_ne.2 (by omega)
                have p69 : (((s[at_ + n - 1]'hq1).toNat : Int) == 69) = true := beq_iff_eq.2 (by omega)
                have HN := Lib.hid (HZ.out (by rw [hin]; simp [kp]))
                clear hin kp k46 k4
                go_wp2_with fail
                refine (HL.out _).mono ?_
                rintro r w1 ⟨rfl, rfl⟩
                go_wp2_with fail
                refine (HD.out _).mono ?_
                rintro r w1 ⟨rfl, rfl⟩
                go_wp2_with fail
                go_ret
                exact ⟨by rw [HN.out, Nat.add_sub_cancel_left]; rfl, rfl⟩
              · have p112 : (((s[at_ + n - 1]'hq1).toNat : Int) == 112) = false := beq_eq_false_iff_ne.2 (by omega)
                have p80 : (((s[at_ + n - 1]'hq1).toNat : Int) == 80) = false := beq_eq_false_iff_ne.2 (by omega)
                have p101 : (((s[at_ + n - 1]'hq1).toNat : Int) == 101) = false := beq_eq_false_iff_ne.2 (by omega)
                have p69 : (((s[at_ + n - 1]'hq1).toNat : Int) == 69) = false := beq_eq_false_iff_ne.2 (by omega)
                have HN := Lib.hid (HZ.out (by rw [hin]; simp [kp.1, kp.2.1, kp.2.2.1, kp.2.2.2]))
                clear hin kp k46 k4
                go_wp2_with fail
                refine (HL.out _).mono ?_
                rintro r w1 ⟨rfl, rfl⟩
                go_wp2_with fail
                refine (HD.out _).mono ?_
                rintro r w1 ⟨rfl, rfl⟩
                go_wp2_with fail
                go_ret
                exact ⟨by rw [HN.out, Nat.add_sub_cancel_left]; rfl, rfl⟩
            · have c46 : (((s[at_ + n]'hq).toNat : Int) == 46) = false := beq_eq_false_iff_ne.2 (by omega)
              have c43 : (((s[at_ + n]'hq).toNat : Int) == 43) = false := beq_eq_false_iff_ne.2 (by omega)
              have c45 : (((s[at_ + n]'hq).toNat : Int) == 45) = true := beq_iff_eq.2 (by omega)
              rcases (by omega : (s[at_ + n - 1]'hq1).toNat = 112 ∨ (s[at_ + n - 1]'hq1).toNat = 80 ∨ (s[at_ + n - 1]'hq1).toNat = 101 ∨ (s[at_ + n - 1]'hq1).toNat = 69 ∨ ((s[at_ + n - 1]'hq1).toNat ≠ 112 ∧ (s[at_ + n - 1]'hq1).toNat ≠ 80 ∧ (s[at_ + n - 1]'hq1).toNat ≠ 101 ∧ (s[at_ + n - 1]'hq1).toNat ≠ 69)) with kp | kp | kp | kp | kp
              · have p112 : (((s[at_ + n - 1]'hq1).toNat : Int) == 112) = true := beq_iff_eq.2 (by omega)
                have p80 : (((s[at_ + n - 1]'hq1).toNat : Int) == 80) = false := beq_eq_false_iff_ne.2 (by omega)
                have p101 : (((s[at_ + n - 1]'hq1).toNat : Int) == 101) = false := beq_eq_false_iff_ne.2 (by omega)
                have p69 : (((s[at_ + n - 1]'hq1).toNat : Int) == 69) = false := beq_eq_false_iff_ne.2 (by omega)
                have HN := Lib.hid (HY.out (by rw [hin]; simp [kp]))
                clear hin kp k46 k4
                go_wp2_with fail
                refine (HL.out _).mono ?_
                rintro r w1 ⟨rfl, rfl⟩
                go_wp2_with fail
                refine (HD.out _).mono ?_
                rintro r w1 ⟨rfl, rfl⟩
                go_wp2_with fail
                go_roundg (gk - 1)
                case measure => omega
                case rel => exact ⟨n + 1, by omega, by go_num, .inr ⟨by omega, by exact HN.out⟩, rfl⟩
              · have p112 : (((s[at_ + n - 1]'hq1).toNat : Int) == 112) = false := beq_eq_false_iff_ne.2 (by omega)
                have p80 : (((s[at_ + n - 1]'hq1).toNat : Int) == 80) = true := beq_iff_eq.2 (by omega)
                have p101 : (((s[at_ + n - 1]'hq1).toNat : Int) == 101) = false := beq_eq_false_iff_ne.2 (by omega)
                have p69 : (((s[at_ + n - 1]'hq1).toNat : Int) == 69) = false := beq_eq_false_iff_ne.2 (by omega)
                have HN := Lib.hid (HY.out (by rw [hin]; simp [kp]))
                clear hin kp k46 k4
                go_wp2_with fail
                refine (HL.out _).mono ?_
                rintro r w1 ⟨rfl, rfl⟩
                go_wp2_with fail
                refine (HD.out _).mono ?_
                rintro r w1 ⟨rfl, rfl⟩
                go_wp2_with fail
                go_roundg (gk - 1)
                case measure => omega
                case rel => exact ⟨n + 1, by omega, by go_num, .inr ⟨by omega, by exact HN.out⟩, rfl⟩
              · have p112 : (((s[at_ + n - 1]'hq1).toNat : Int) == 112) = false := beq_eq_false_iff_ne.2 (by omega)
                have p80 : (((s[at_ + n - 1]'hq1).toNat : Int) == 80) = false := beq_eq_false_iff_ne.2 (by omega)
                have p101 : (((s[at_ + n - 1]'hq1).toNat : Int) == 101) = true := beq_iff_eq.2 (by omega)
                have p69 : (((s[at_ + n - 1]'hq1).toNat : Int) == 69) = false := beq_eq_false_iff_ne.2 (by omega)
                have HN := Lib.hid (HZ.out (by rw [hin]; simp [kp]))
                clear hin kp k46 k4
                go_wp2_with fail
                refine (HL.out _).mono ?_
                rintro r w1 ⟨rfl, rfl⟩
                go_wp2_with fail
                refine (HD.out _).mono ?_
                rintro r w1 ⟨rfl, rfl⟩
                go_wp2_with fail
                go_ret
                exact ⟨by rw [HN.out, Nat.add_sub_cancel_left]; rfl, rfl⟩
              · have p112 : (((s[at_ + n - 1]'hq1).toNat : Int) == 112) = false := beq_eq_false_iff_ne.2 (by omega)
                have p80 : (((s[at_ + n - 1]'hq1).toNat : Int) == 80) = false := beq_eq_false_iff_ne.2 (by omega)
                have p101 : (((s[at_ + n - 1]'hq1).toNat : Int) == 101) = false := beq_eq_false_iff_ne.2 (by omega)
                have p69 : (((s[at_ + n - 1]'hq1).toNat : Int) == 69) = true := beq_iff_eq.2 (by omega)
                have HN := Lib.hid (HZ.out (by rw [hin]; simp [kp]))
                clear hin kp k46 k4
                go_wp2_with fail
                refine (HL.out _).mono ?_
                rintro r w1 ⟨rfl, rfl⟩
                go_wp2_with fail
                refine (HD.out _).mono ?_
                rintro r w1 ⟨rfl, rfl⟩
                go_wp2_with fail
                go_ret
                exact ⟨by rw [HN.out, Nat.add_sub_cancel_left]; rfl, rfl⟩
              · have p112 : (((s[at_ + n - 1]'hq1).toNat : Int) == 112) = false := beq_eq_false_iff_ne.2 (by omega)
                have p80 : (((s[at_ + n - 1]'hq1).toNat : Int) == 80) = false := beq_eq_false_iff_ne.2 (by omega)
                have p101 : (((s[at_ + n - 1]'hq1).toNat : Int) == 101) = false := beq_eq_false_iff_ne.2 (by omega)
                have p69 : (((s[at_ + n - 1]'hq1).toNat : Int) == 69) = false := beq_eq_false_iff_ne.2 (by omega)
                have HN := Lib.hid (HZ.out (by rw [hin]; simp [kp.1, kp.2.1, kp.2.2.1, kp.2.2.2]))
                clear hin kp k46 k4
                go_wp2_with fail
                refine (HL.out _).mono ?_
                rintro r w1 ⟨rfl, rfl⟩
                go_wp2_with fail
                refine (HD.out _).mono ?_
                rintro r w1 ⟨rfl, rfl⟩
                go_wp2_with fail
                go_ret
                exact ⟨by rw [HN.out, Nat.add_sub_cancel_left]; rfl, rfl⟩
          have hin : inNum (s[at_ + n - 1]'hq1).toNat (s[at_ + n]'hq).toNat true = (decide ((s[at_ + n]'hq).toNat < 128) && (letR ((((s[at_ + n]'hq).toNat : Nat)) : Int) || digR ((((s[at_ + n]'hq).toNat : Nat)) : Int))) := by unfold inNum; rw [if_neg k46, if_neg k4]
          have c46 : (((s[at_ + n]'hq).toNat : Int) == 46) = false := beq_eq_false_iff_ne.2 (by omega)
          have c43 : (((s[at_ + n]'hq).toNat : Int) == 43) = false := beq_eq_false_iff_ne.2 (by omega)
          have c45 : (((s[at_ + n]'hq).toNat : Int) == 45) = false := beq_eq_false_iff_ne.2 (by omega)
          by_cases k128 : (s[at_ + n]'hq).toNat < 128
          · have h128 : (((s[at_ + n]'hq).toNat : Nat) : Int) < 128 := by omega
            rw [decide_eq_true k128, Bool.true_and] at hin
            cases hl : letR ((((s[at_ + n]'hq).toNat : Nat)) : Int) with
            | true =>
              have HN := Lib.hid (HY.out (by rw [hin, hl]; rfl))
              rw [hl] at HL
              clear hl hin k46 k4 k128
              go_wp2_with fail
              refine (HL.out _).mono ?_
              rintro r w1 ⟨rfl, rfl⟩
              go_wp2_with fail
              go_roundg (gk - 1)
              case measure => omega
              case rel => exact ⟨n + 1, by omega, by go_num, .inr ⟨by omega, by exact HN.out⟩, rfl⟩
            | false =>
              cases hdd : digR ((((s[at_ + n]'hq).toNat : Nat)) : Int) with
              | true =>
                have HN := Lib.hid (HY.out (by rw [hin, hl, hdd]; rfl))
                rw [hl] at HL
                rw [hdd] at HD
                clear hl hdd hin k46 k4 k128
                go_wp2_with fail
                refine (HL.out _).mono ?_
                rintro r w1 ⟨rfl, rfl⟩
                go_wp2_with fail
                refine (HD.out _).mono ?_
                rintro r w1 ⟨rfl, rfl⟩
                go_wp2_with fail
                go_roundg (gk - 1)
                case measure => omega
                case rel => exact ⟨n + 1, by omega, by go_num, .inr ⟨by omega, by exact HN.out⟩, rfl⟩
              | false =>
                have HN := Lib.hid (HZ.out (by rw [hin, hl, hdd]; decide))
                rw [hl] at HL
                rw [hdd] at HD
                clear hl hdd hin k46 k4 k128
                go_wp2_with fail
                refine (HL.out _).mono ?_
                rintro r w1 ⟨rfl, rfl⟩
                go_wp2_with fail
                refine (HD.out _).mono ?_
                rintro r w1 ⟨rfl, rfl⟩
                go_wp2_with fail
                go_ret
                exact ⟨by rw [HN.out, Nat.add_sub_cancel_left]; rfl, rfl⟩
          · have h128 : ¬ (((s[at_ + n]'hq).toNat : Nat) : Int) < 128 := by omega
            have HN := Lib.hid (HZ.out (by rw [hin, decide_eq_false k128]; simp))
            clear hin k46 k4 k128
            go_wp2_with fail
            go_ret
            exact ⟨by rw [HN.out, Nat.add_sub_cancel_left]; rfl, rfl⟩
    | false =>
      have hx2 : hex = false := hx
      clear hx
      subst hx2
      go_wp2_with fail
      refine (HB1.out _).mono ?_
      rintro r w1 ⟨rfl, rfl⟩
      go_wp2_with fail
      refine (HB2.out _).mono ?_
      rintro r w1 ⟨rfl, rfl⟩
      go_wp2_with fail
      go_loopg [6] (s.size - at_) (fun g nv wr => ∃ n : Nat, at_ + n + g = s.size ∧ nv = .int .i64 n ∧ (n = 0 ∨ (1 ≤ n ∧ numE s false (at_ + 1) = numE s false (at_ + n))) ∧ w = wr)
      case atStart => exact ⟨0, by omega, rfl, .inl rfl, rfl⟩
      case round =>
        obtain ⟨n, hng, rfl, hor, rfl⟩ := hrel
        have hcast : ((at_ : Int) + (n : Int)).toNat = at_ + n := by omega
        by_cases hq : at_ + n < s.size
        case neg =>
          have hqI : ¬ (at_ : Int) + (n : Int) < (s.size : Int) := by omega
          have HN : Hid (numE s false (at_ + 1) = at_ + n) := Lib.hid (by
            rcases hor with h | ⟨h1, h2⟩
            · omega
            · rw [h2, numE, if_neg hq])
          clear hor
          go_wp2_with fail
          go_ret
          exact ⟨by rw [HN.out, Nat.add_sub_cancel_left]; rfl, rfl⟩
        have hqI : (at_ : Int) + (n : Int) < (s.size : Int) := by omega
        have hcb := byt_at2 s (at_ + n) hq
        have h8 : (s[at_ + n]'hq).toNat ≤ 255 := by have := (s[at_ + n]'hq).toNat_lt; omega
        have HL := Lib.hid (fun w1 => refLetter_any (((s[at_ + n]'hq).toNat : Nat) : Int) w1)
        have HD := Lib.hid (fun w1 => refDigit_any (((s[at_ + n]'hq).toNat : Nat) : Int) w1)
        rcases hor with rfl | ⟨hn1, hE⟩
        · have hcb0 := byt_at2 s at_ ha
          have h80 : (s[at_]'ha).toNat ≤ 255 := by have := (s[at_]'ha).toNat_lt; omega
          have HL := Lib.hid (fun w1 => refLetter_any (((s[at_]'ha).toNat : Nat) : Int) w1)
          have HD := Lib.hid (fun w1 => refDigit_any (((s[at_]'ha).toNat : Nat) : Int) w1)
          clear hcb h8
          rcases Hd.out with h46 | hdg
          · have hc : (s[at_]'ha).toNat = 46 := by rw [hcb0]; exact h46
            clear hcb0
            have c46 : (((s[at_]'ha).toNat : Int) == 46) = true := beq_iff_eq.2 (by omega)
            have c43 : (((s[at_]'ha).toNat : Int) == 43) = false := beq_eq_false_iff_ne.2 (by omega)
            have c45 : (((s[at_]'ha).toNat : Int) == 45) = false := beq_eq_false_iff_ne.2 (by omega)
            clear hc h46
            go_wp2_with fail
            go_roundg (gk - 1)
            case measure => omega
            case rel => exact ⟨0 + 1, by omega, by go_num, .inr ⟨by omega, rfl⟩, rfl⟩
          · have hc : 48 ≤ (s[at_]'ha).toNat ∧ (s[at_]'ha).toNat ≤ 57 := by rw [hcb0]; exact hdg
            have hl : letR ((((s[at_]'ha).toNat : Nat)) : Int) = false := decide_eq_false (by omega)
            have hdd : digR ((((s[at_]'ha).toNat : Nat)) : Int) = true := decide_eq_true (by omega)
            have h128 : (((s[at_]'ha).toNat : Nat) : Int) < 128 := by omega
            rw [hl] at HL
            rw [hdd] at HD
            clear hl hdd hcb0
            have c46 : (((s[at_]'ha).toNat : Int) == 46) = false := beq_eq_false_iff_ne.2 (by omega)
            have c43 : (((s[at_]'ha).toNat : Int) == 43) = false := beq_eq_false_iff_ne.2 (by omega)
            have c45 : (((s[at_]'ha).toNat : Int) == 45) = false := beq_eq_false_iff_ne.2 (by omega)
            clear hc hdg
            go_wp2_with fail
            refine (HL.out _).mono ?_
            rintro r w1 ⟨rfl, rfl⟩
            go_wp2_with fail
            refine (HD.out _).mono ?_
            rintro r w1 ⟨rfl, rfl⟩
            go_wp2_with fail
            go_roundg (gk - 1)
            case measure => omega
            case rel => exact ⟨0 + 1, by omega, by go_num, .inr ⟨by omega, rfl⟩, rfl⟩
        · have hq1 : at_ + n - 1 < s.size := by omega
          have hpb := byt_at2 s (at_ + n - 1) hq1
          have hp8 : (s[at_ + n - 1]'hq1).toNat ≤ 255 := by have := (s[at_ + n - 1]'hq1).toNat_lt; omega
          have htn1 : ((at_ : Int) + (n : Int) - 1).toNat = at_ + n - 1 := by omega
          have hn0 : (0 : Int) < (n : Int) := by omega
          have HU := Lib.hid (show numE s false (at_ + n) = if inNum (s[at_ + n - 1]'hq1).toNat (s[at_ + n]'hq).toNat false = true then numE s false (at_ + n + 1) else at_ + n by rw [numE, if_pos hq, hpb, hcb])
          have HY := Lib.hid (show inNum (s[at_ + n - 1]'hq1).toNat (s[at_ + n]'hq).toNat false = true → numE s false (at_ + 1) = numE s false (at_ + (n + 1)) from fun h => by rw [hE, HU.out, if_pos h]; rfl)
          have HZ := Lib.hid (show ¬ inNum (s[at_ + n - 1]'hq1).toNat (s[at_ + n]'hq).toNat false = true → numE s false (at_ + 1) = at_ + n from fun h => by rw [hE, HU.out, if_neg h])
          clear hE hcb hpb
          by_cases k46 : (s[at_ + n]'hq).toNat = 46
          · have HN := Lib.hid (HY.out (by unfold inNum; rw [if_pos k46]))
            have c46 : (((s[at_ + n]'hq).toNat : Int) == 46) = true := beq_iff_eq.2 (by omega)
            have c43 : (((s[at_ + n]'hq).toNat : Int) == 43) = false := beq_eq_false_iff_ne.2 (by omega)
            have c45 : (((s[at_ + n]'hq).toNat : Int) == 45) = false := beq_eq_false_iff_ne.2 (by omega)
            clear k46
            go_wp2_with fail
            go_roundg (gk - 1)
            case measure => omega
            case rel => exact ⟨n + 1, by omega, by go_num, .inr ⟨by omega, by exact HN.out⟩, rfl⟩
          by_cases k4 : (s[at_ + n]'hq).toNat = 43 ∨ (s[at_ + n]'hq).toNat = 45
          · have hl : letR ((((s[at_ + n]'hq).toNat : Nat)) : Int) = false := decide_eq_false (by omega)
            have hdd : digR ((((s[at_ + n]'hq).toNat : Nat)) : Int) = false := decide_eq_false (by omega)
            have h128 : (((s[at_ + n]'hq).toNat : Nat) : Int) < 128 := by omega
            rw [hl] at HL
            rw [hdd] at HD
            clear hl hdd
            have hin : inNum (s[at_ + n - 1]'hq1).toNat (s[at_ + n]'hq).toNat false = (decide ((s[at_ + n - 1]'hq1).toNat = 112 ∨ (s[at_ + n - 1]'hq1).toNat = 80) || (!false && decide ((s[at_ + n - 1]'hq1).toNat = 101 ∨ (s[at_ + n - 1]'hq1).toNat = 69))) := by unfold inNum; rw [if_neg k46, if_pos k4]
            rcases k4 with k4 | k4
            · have c46 : (((s[at_ + n]'hq).toNat : Int) == 46) = false := beq_eq_false_iff_ne.2 (by omega)
              have c43 : (((s[at_ + n]'hq).toNat : Int) == 43) = true := beq_iff_eq.2 (by omega)
              have c45 : (((s[at_ + n]'hq).toNat : Int) == 45) = false := beq_eq_false_iff_ne.2 (by omega)
              rcases (by omega : (s[at_ + n - 1]'hq1).toNat = 112 ∨ (s[at_ + n - 1]'hq1).toNat = 80 ∨ (s[at_ + n - 1]'hq1).toNat = 101 ∨ (s[at_ + n - 1]'hq1).toNat = 69 ∨ ((s[at_ + n - 1]'hq1).toNat ≠ 112 ∧ (s[at_ + n - 1]'hq1).toNat ≠ 80 ∧ (s[at_ + n - 1]'hq1).toNat ≠ 101 ∧ (s[at_ + n - 1]'hq1).toNat ≠ 69)) with kp | kp | kp | kp | kp
              · have p112 : (((s[at_ + n - 1]'hq1).toNat : Int) == 112) = true := beq_iff_eq.2 (by omega)
                have p80 : (((s[at_ + n - 1]'hq1).toNat : Int) == 80) = false := beq_eq_false_iff_ne.2 (by omega)
                have p101 : (((s[at_ + n - 1]'hq1).toNat : Int) == 101) = false := beq_eq_false_iff_ne.2 (by omega)
                have p69 : (((s[at_ + n - 1]'hq1).toNat : Int) == 69) = false := beq_eq_false_iff_ne.2 (by omega)
                have HN := Lib.hid (HY.out (by rw [hin]; simp [kp]))
                clear hin kp k46 k4
                go_wp2_with fail
                refine (HL.out _).mono ?_
                rintro r w1 ⟨rfl, rfl⟩
                go_wp2_with fail
                refine (HD.out _).mono ?_
                rintro r w1 ⟨rfl, rfl⟩
                go_wp2_with fail
                go_roundg (gk - 1)
                case measure => omega
                case rel => exact ⟨n + 1, by omega, by go_num, .inr ⟨by omega, by exact HN.out⟩, rfl⟩
              · have p112 : (((s[at_ + n - 1]'hq1).toNat : Int) == 112) = false := beq_eq_false_iff_ne.2 (by omega)
                have p80 : (((s[at_ + n - 1]'hq1).toNat : Int) == 80) = true := beq_iff_eq.2 (by omega)
                have p101 : (((s[at_ + n - 1]'hq1).toNat : Int) == 101) = false := beq_eq_false_iff_ne.2 (by omega)
                have p69 : (((s[at_ + n - 1]'hq1).toNat : Int) == 69) = false := beq_eq_false_iff_ne.2 (by omega)
                have HN := Lib.hid (HY.out (by rw [hin]; simp [kp]))
                clear hin kp k46 k4
                go_wp2_with fail
                refine (HL.out _).mono ?_
                rintro r w1 ⟨rfl, rfl⟩
                go_wp2_with fail
                refine (HD.out _).mono ?_
                rintro r w1 ⟨rfl, rfl⟩
                go_wp2_with fail
                go_roundg (gk - 1)
                case measure => omega
                case rel => exact ⟨n + 1, by omega, by go_num, .inr ⟨by omega, by exact HN.out⟩, rfl⟩
              · have p112 : (((s[at_ + n - 1]'hq1).toNat : Int) == 112) = false := beq_eq_false_iff_ne.2 (by omega)
                have p80 : (((s[at_ + n - 1]'hq1).toNat : Int) == 80) = false := beq_eq_false_iff_ne.2 (by omega)
                have p101 : (((s[at_ + n - 1]'hq1).toNat : Int) == 101) = true := beq_iff_eq.2 (by omega)
                have p69 : (((s[at_ + n - 1]'hq1).toNat : Int) == 69) = false := beq_eq_false_iff_ne.2 (by omega)
                have HN := Lib.hid (HY.out (by rw [hin]; simp [kp]))
                clear hin kp k46 k4
                go_wp2_with fail
                refine (HL.out _).mono ?_
                rintro r w1 ⟨rfl, rfl⟩
                go_wp2_with fail
                refine (HD.out _).mono ?_
                rintro r w1 ⟨rfl, rfl⟩
                go_wp2_with fail
                go_roundg (gk - 1)
                case measure => omega
                case rel => exact ⟨n + 1, by omega, by go_num, .inr ⟨by omega, by exact HN.out⟩, rfl⟩
              · have p112 : (((s[at_ + n - 1]'hq1).toNat : Int) == 112) = false := beq_eq_false_iff_ne.2 (by omega)
                have p80 : (((s[at_ + n - 1]'hq1).toNat : Int) == 80) = false := beq_eq_false_iff_ne.2 (by omega)
                have p101 : (((s[at_ + n - 1]'hq1).toNat : Int) == 101) = false := beq_eq_false_iff_ne.2 (by omega)
                have p69 : (((s[at_ + n - 1]'hq1).toNat : Int) == 69) = true := beq_iff_eq.2 (by omega)
                have HN := Lib.hid (HY.out (by rw [hin]; simp [kp]))
                clear hin kp k46 k4
                go_wp2_with fail
                refine (HL.out _).mono ?_
                rintro r w1 ⟨rfl, rfl⟩
                go_wp2_with fail
                refine (HD.out _).mono ?_
                rintro r w1 ⟨rfl, rfl⟩
                go_wp2_with fail
                go_roundg (gk - 1)
                case measure => omega
                case rel => exact ⟨n + 1, by omega, by go_num, .inr ⟨by omega, by exact HN.out⟩, rfl⟩
              · have p112 : (((s[at_ + n - 1]'hq1).toNat : Int) == 112) = false := beq_eq_false_iff_ne.2 (by omega)
                have p80 : (((s[at_ + n - 1]'hq1).toNat : Int) == 80) = false := beq_eq_false_iff_ne.2 (by omega)
                have p101 : (((s[at_ + n - 1]'hq1).toNat : Int) == 101) = false := beq_eq_false_iff_ne.2 (by omega)
                have p69 : (((s[at_ + n - 1]'hq1).toNat : Int) == 69) = false := beq_eq_false_iff_ne.2 (by omega)
                have HN := Lib.hid (HZ.out (by rw [hin]; simp [kp.1, kp.2.1, kp.2.2.1, kp.2.2.2]))
                clear hin kp k46 k4
                go_wp2_with fail
                refine (HL.out _).mono ?_
                rintro r w1 ⟨rfl, rfl⟩
                go_wp2_with fail
                refine (HD.out _).mono ?_
                rintro r w1 ⟨rfl, rfl⟩
                go_wp2_with fail
                go_ret
                exact ⟨by rw [HN.out, Nat.add_sub_cancel_left]; rfl, rfl⟩
            · have c46 : (((s[at_ + n]'hq).toNat : Int) == 46) = false := beq_eq_false_iff_ne.2 (by omega)
              have c43 : (((s[at_ + n]'hq).toNat : Int) == 43) = false := beq_eq_false_iff_ne.2 (by omega)
              have c45 : (((s[at_ + n]'hq).toNat : Int) == 45) = true := beq_iff_eq.2 (by omega)
              rcases (by omega : (s[at_ + n - 1]'hq1).toNat = 112 ∨ (s[at_ + n - 1]'hq1).toNat = 80 ∨ (s[at_ + n - 1]'hq1).toNat = 101 ∨ (s[at_ + n - 1]'hq1).toNat = 69 ∨ ((s[at_ + n - 1]'hq1).toNat ≠ 112 ∧ (s[at_ + n - 1]'hq1).toNat ≠ 80 ∧ (s[at_ + n - 1]'hq1).toNat ≠ 101 ∧ (s[at_ + n - 1]'hq1).toNat ≠ 69)) with kp | kp | kp | kp | kp
              · have p112 : (((s[at_ + n - 1]'hq1).toNat : Int) == 112) = true := beq_iff_eq.2 (by omega)
                have p80 : (((s[at_ + n - 1]'hq1).toNat : Int) == 80) = false := beq_eq_false_iff_ne.2 (by omega)
                have p101 : (((s[at_ + n - 1]'hq1).toNat : Int) == 101) = false := beq_eq_false_iff_ne.2 (by omega)
                have p69 : (((s[at_ + n - 1]'hq1).toNat : Int) == 69) = false := beq_eq_false_iff_ne.2 (by omega)
                have HN := Lib.hid (HY.out (by rw [hin]; simp [kp]))
                clear hin kp k46 k4
                go_wp2_with fail
                refine (HL.out _).mono ?_
                rintro r w1 ⟨rfl, rfl⟩
                go_wp2_with fail
                refine (HD.out _).mono ?_
                rintro r w1 ⟨rfl, rfl⟩
                go_wp2_with fail
                go_roundg (gk - 1)
                case measure => omega
                case rel => exact ⟨n + 1, by omega, by go_num, .inr ⟨by omega, by exact HN.out⟩, rfl⟩
              · have p112 : (((s[at_ + n - 1]'hq1).toNat : Int) == 112) = false := beq_eq_false_iff_ne.2 (by omega)
                have p80 : (((s[at_ + n - 1]'hq1).toNat : Int) == 80) = true := beq_iff_eq.2 (by omega)
                have p101 : (((s[at_ + n - 1]'hq1).toNat : Int) == 101) = false := beq_eq_false_iff_ne.2 (by omega)
                have p69 : (((s[at_ + n - 1]'hq1).toNat : Int) == 69) = false := beq_eq_false_iff_ne.2 (by omega)
                have HN := Lib.hid (HY.out (by rw [hin]; simp [kp]))
                clear hin kp k46 k4
                go_wp2_with fail
                refine (HL.out _).mono ?_
                rintro r w1 ⟨rfl, rfl⟩
                go_wp2_with fail
                refine (HD.out _).mono ?_
                rintro r w1 ⟨rfl, rfl⟩
                go_wp2_with fail
                go_roundg (gk - 1)
                case measure => omega
                case rel => exact ⟨n + 1, by omega, by go_num, .inr ⟨by omega, by exact HN.out⟩, rfl⟩
              · have p112 : (((s[at_ + n - 1]'hq1).toNat : Int) == 112) = false := beq_eq_false_iff_ne.2 (by omega)
                have p80 : (((s[at_ + n - 1]'hq1).toNat : Int) == 80) = false := beq_eq_false_iff_ne.2 (by omega)
                have p101 : (((s[at_ + n - 1]'hq1).toNat : Int) == 101) = true := beq_iff_eq.2 (by omega)
                have p69 : (((s[at_ + n - 1]'hq1).toNat : Int) == 69) = false := beq_eq_false_iff_ne.2 (by omega)
                have HN := Lib.hid (HY.out (by rw [hin]; simp [kp]))
                clear hin kp k46 k4
                go_wp2_with fail
                refine (HL.out _).mono ?_
                rintro r w1 ⟨rfl, rfl⟩
                go_wp2_with fail
                refine (HD.out _).mono ?_
                rintro r w1 ⟨rfl, rfl⟩
                go_wp2_with fail
                go_roundg (gk - 1)
                case measure => omega
                case rel => exact ⟨n + 1, by omega, by go_num, .inr ⟨by omega, by exact HN.out⟩, rfl⟩
              · have p112 : (((s[at_ + n - 1]'hq1).toNat : Int) == 112) = false := beq_eq_false_iff_ne.2 (by omega)
                have p80 : (((s[at_ + n - 1]'hq1).toNat : Int) == 80) = false := beq_eq_false_iff_ne.2 (by omega)
                have p101 : (((s[at_ + n - 1]'hq1).toNat : Int) == 101) = false := beq_eq_false_iff_ne.2 (by omega)
                have p69 : (((s[at_ + n - 1]'hq1).toNat : Int) == 69) = true := beq_iff_eq.2 (by omega)
                have HN := Lib.hid (HY.out (by rw [hin]; simp [kp]))
                clear hin kp k46 k4
                go_wp2_with fail
                refine (HL.out _).mono ?_
                rintro r w1 ⟨rfl, rfl⟩
                go_wp2_with fail
                refine (HD.out _).mono ?_
                rintro r w1 ⟨rfl, rfl⟩
                go_wp2_with fail
                go_roundg (gk - 1)
                case measure => omega
                case rel => exact ⟨n + 1, by omega, by go_num, .inr ⟨by omega, by exact HN.out⟩, rfl⟩
              · have p112 : (((s[at_ + n - 1]'hq1).toNat : Int) == 112) = false := beq_eq_false_iff_ne.2 (by omega)
                have p80 : (((s[at_ + n - 1]'hq1).toNat : Int) == 80) = false := beq_eq_false_iff_ne.2 (by omega)
                have p101 : (((s[at_ + n - 1]'hq1).toNat : Int) == 101) = false := beq_eq_false_iff_ne.2 (by omega)
                have p69 : (((s[at_ + n - 1]'hq1).toNat : Int) == 69) = false := beq_eq_false_iff_ne.2 (by omega)
                have HN := Lib.hid (HZ.out (by rw [hin]; simp [kp.1, kp.2.1, kp.2.2.1, kp.2.2.2]))
                clear hin kp k46 k4
                go_wp2_with fail
                refine (HL.out _).mono ?_
                rintro r w1 ⟨rfl, rfl⟩
                go_wp2_with fail
                refine (HD.out _).mono ?_
                rintro r w1 ⟨rfl, rfl⟩
                go_wp2_with fail
                go_ret
                exact ⟨by rw [HN.out, Nat.add_sub_cancel_left]; rfl, rfl⟩
          have hin : inNum (s[at_ + n - 1]'hq1).toNat (s[at_ + n]'hq).toNat false = (decide ((s[at_ + n]'hq).toNat < 128) && (letR ((((s[at_ + n]'hq).toNat : Nat)) : Int) || digR ((((s[at_ + n]'hq).toNat : Nat)) : Int))) := by unfold inNum; rw [if_neg k46, if_neg k4]
          have c46 : (((s[at_ + n]'hq).toNat : Int) == 46) = false := beq_eq_false_iff_ne.2 (by omega)
          have c43 : (((s[at_ + n]'hq).toNat : Int) == 43) = false := beq_eq_false_iff_ne.2 (by omega)
          have c45 : (((s[at_ + n]'hq).toNat : Int) == 45) = false := beq_eq_false_iff_ne.2 (by omega)
          by_cases k128 : (s[at_ + n]'hq).toNat < 128
          · have h128 : (((s[at_ + n]'hq).toNat : Nat) : Int) < 128 := by omega
            rw [decide_eq_true k128, Bool.true_and] at hin
            cases hl : letR ((((s[at_ + n]'hq).toNat : Nat)) : Int) with
            | true =>
              have HN := Lib.hid (HY.out (by rw [hin, hl]; rfl))
              rw [hl] at HL
              clear hl hin k46 k4 k128
              go_wp2_with fail
              refine (HL.out _).mono ?_
              rintro r w1 ⟨rfl, rfl⟩
              go_wp2_with fail
              go_roundg (gk - 1)
              case measure => omega
              case rel => exact ⟨n + 1, by omega, by go_num, .inr ⟨by omega, by exact HN.out⟩, rfl⟩
            | false =>
              cases hdd : digR ((((s[at_ + n]'hq).toNat : Nat)) : Int) with
              | true =>
                have HN := Lib.hid (HY.out (by rw [hin, hl, hdd]; rfl))
                rw [hl] at HL
                rw [hdd] at HD
                clear hl hdd hin k46 k4 k128
                go_wp2_with fail
                refine (HL.out _).mono ?_
                rintro r w1 ⟨rfl, rfl⟩
                go_wp2_with fail
                refine (HD.out _).mono ?_
                rintro r w1 ⟨rfl, rfl⟩
                go_wp2_with fail
                go_roundg (gk - 1)
                case measure => omega
                case rel => exact ⟨n + 1, by omega, by go_num, .inr ⟨by omega, by exact HN.out⟩, rfl⟩
              | false =>
                have HN := Lib.hid (HZ.out (by rw [hin, hl, hdd]; decide))
                rw [hl] at HL
                rw [hdd] at HD
                clear hl hdd hin k46 k4 k128
                go_wp2_with fail
                refine (HL.out _).mono ?_
                rintro r w1 ⟨rfl, rfl⟩
                go_wp2_with fail
                refine (HD.out _).mono ?_
                rintro r w1 ⟨rfl, rfl⟩
                go_wp2_with fail
                go_ret
                exact ⟨by rw [HN.out, Nat.add_sub_cancel_left]; rfl, rfl⟩
          · have h128 : ¬ (((s[at_ + n]'hq).toNat : Nat) : Int) < 128 := by omega
            have HN := Lib.hid (HZ.out (by rw [hin, decide_eq_false k128]; simp))
            clear hin k46 k4 k128
            go_wp2_with fail
            go_ret
            exact ⟨by rw [HN.out, Nat.add_sub_cancel_left]; rfl, rfl⟩
end Go.Proofs.YtejogobhnbjpdaaGreatDoor
