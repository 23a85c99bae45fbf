/- Walks: the document's names; whether a text begins with another one; Walks: the document's numbers; Walks: the document's comments; Walks: the document's comments of more than a line. -/
import Derived.Test.YtejogobhnbjpdaaGreatDoorLd
import Derived.Test.YtejogobhnbjpdaaGreatDoorHb
namespace Go.Proofs.YtejogobhnbjpdaaGreatDoor
set_option linter.unusedVariables false
set_option linter.unusedSimpArgs false
open Go.ChangeShapes Go.WideShapes Go.ChangeAt Go.RowKit

theorem refRune_is (s : ByteArray) (i : Nat) (w : World) (hi : i < s.size) (hs : s.size ≤ 140737488351232) :
    Calls Tryz.prog 49 #[.string s, .int .i64 i] w fun e w' => e = .returned (.tuple #[.int .i64 (runeAt s i).1, .int .i64 (runeAt s i).2]) ∧ Below w.heap.size w w' := by
  have h := refRune_in s i w hi hs
  rw [ref_is s i hi] at h
  exact h
/-- The document's sign at whatever place up to the end. -/
theorem refRune_any (s : ByteArray) (i : Nat) (w : World) (hs : s.size ≤ 140737488351232) :
    Calls Tryz.prog 49 #[.string s, .int .i64 i] w fun e w' => e = .returned (.tuple #[.int .i64 (rn s i).1, .int .i64 (rn s i).2]) ∧ Below w.heap.size w w' := by
  by_cases hi : i < s.size
  · rw [rn_in hi]; exact refRune_is s i w hi hs
  · rw [rn_out hi]
    exact (refRune_out s i w (.inr (by omega))).mono (by rintro e w1 ⟨rfl, rfl⟩; exact ⟨rfl, Below.refl _ _⟩)
set_option maxRecDepth 100000 in
set_option maxHeartbeats 1000000 in
theorem begins_any (s x : ByteArray) (q : Nat) (w : World) (hs : s.size ≤ 1048576) (hx : x.size ≤ 16) (hq : q ≤ s.size) :
    Calls Tryz.prog 51 #[.string s, .int .i64 q, .string x] w fun e w' => e = .returned (.bool (pre s q x.data.toList)) ∧ w = w' := by
  have hp := pre_ext hq x.data.toList
  rw [← Lib.size_eq] at hp
  by_cases h1 : q + x.size ≤ s.size
  · have hI1 : (q : Int) ≤ (s.size : Int) - (x.size : Int) := by omega
    have hI2 : (q : Int) + (x.size : Int) ≤ (s.size : Int) := by omega
    have e : ((s.extract q (q + x.size)).toList == x.toList) = pre s q x.data.toList := by
      rw [beq_data, Bool.eq_iff_iff, decide_eq_true_eq, hp]
      exact ⟨fun h => ⟨h1, h⟩, fun h => h.2⟩
    generalize pre s q x.data.toList = b at *
    clear hp
    go_enter Tryz.func51, Tryz.ntmps51
    go_wp2_with fail
    go_ret
    exact ⟨rfl, rfl⟩
  · have hI1 : ¬ (q : Int) ≤ (s.size : Int) - (x.size : Int) := by omega
    have e : pre s q x.data.toList = false := Bool.eq_false_iff.2 (fun h => h1 (hp.1 h).1)
    rw [e]
    clear hp e
    go_enter Tryz.func51, Tryz.ntmps51
    go_wp2_with fail
    go_ret
    exact ⟨rfl, rfl⟩
set_option maxRecDepth 100000 in
set_option maxHeartbeats 1000000 in
theorem name_any (s : ByteArray) (at_ : Nat) (w : World) (hs : s.size ≤ 1048576) (ha : at_ ≤ s.size) :
    Calls Tryz.prog 54 #[.string s, .int .i64 at_] w fun e w' => e = .returned (.int .i64 ((identE s at_ - at_ : Nat))) ∧ Below w.heap.size w w' := by
  have Hge := Lib.hid (identE_ge s _ at_ (Nat.le_refl _))
  go_enter Tryz.func54, Tryz.ntmps54
  go_wp2_with fail
  go_loopg [5] (s.size - at_) (fun g nv wr => ∃ n : Nat, at_ + n + g = s.size ∧ nv = .int .i64 n ∧ identE s at_ = identE s (at_ + n) ∧ Below w.heap.size w wr)
  case atStart => exact ⟨0, by omega, rfl, rfl, Below.refl _ _⟩
  case round =>
    obtain ⟨n, hng, rfl, hE, hBr⟩ := hrel
    have hq : at_ + n ≤ s.size := by omega
    have HR := Lib.hid (fun w1 => refRune_any s (at_ + n) w1 (by omega))
    have ecast : ((at_ + n : Nat) : Int) = (at_ : Int) + (n : Int) := by omega
    rw [ecast] at HR
    have HE := Lib.hid (show identE s (at_ + n) = if at_ + n < s.size then if (letR (rn s (at_ + n)).1 || digR (rn s (at_ + n)).1) = true then identE s (at_ + n + (rn s (at_ + n)).2) else at_ + n else at_ + n by
      rw [identE]
      by_cases h : at_ + n < s.size
      · rw [dif_pos h, if_pos h, rn_in h]
      · rw [dif_neg h, if_neg h])
    have hrr : at_ + n < s.size → at_ + n + (rn s (at_ + n)).2 ≤ s.size ∧ 1 ≤ (rn s (at_ + n)).2 := fun h => by rw [rn_in h]; have := runeAt_range s _ h; omega
    have hro : ¬ at_ + n < s.size → (rn s (at_ + n)).1 = -1 := fun h => by rw [rn_out h]
    have Hat := Lib.hid hE
    have HBr := Lib.hid hBr
    clear hE hBr ecast
    obtain ⟨r, hr⟩ : ∃ r, r = (rn s (at_ + n)).1 := ⟨_, rfl⟩
    obtain ⟨k, hk⟩ : ∃ k, k = (rn s (at_ + n)).2 := ⟨_, rfl⟩
    rw [← hr, ← hk] at HR HE
    rw [← hk] at hrr
    rw [← hr] at hro
    clear hr hk
    have HL := Lib.hid (fun w1 => refLetter_any r w1)
    have HD := Lib.hid (fun w1 => refDigit_any r w1)
    by_cases h0 : r < 0
    · have HE2 : Hid (identE s at_ = at_ + n) := Lib.hid (by
        rw [Hat.out, HE.out]
        split
        · rw [if_neg (fun h => by
            rcases Bool.or_eq_true_iff.1 h with h | h
            · have := letR_pos h; omega
            · have := digR_pos h; omega)]
        · rfl)
      go_wp2_with fail
      refine (HR.out _).mono ?_
      rintro e w1 ⟨rfl, hB1⟩
      have HB := Lib.hid (HBr.out.trans (hB1.mono HBr.out.size))
      clear hB1
      go_wp2_with fail
      go_ret
      exact ⟨by rw [HE2.out, Nat.add_sub_cancel_left]; rfl, HB.out⟩
    · have hlt : at_ + n < s.size := by
        rcases Nat.lt_or_ge (at_ + n) s.size with h | h
        · exact h
        · exact absurd (hro (by omega)) (by omega)
      have hrr2 := hrr hlt
      clear hrr hro
      cases hl : letR r with
      | true =>
        have HE2 := Lib.hid (show identE s (at_ + n) = identE s (at_ + n + k) by rw [HE.out, if_pos hlt, hl]; rfl)
        rw [hl] at HL
        clear hl
        go_wp2_with fail
        refine (HR.out _).mono ?_
        rintro e w1 ⟨rfl, hB1⟩
        have HB := Lib.hid (HBr.out.trans (hB1.mono HBr.out.size))
        clear hB1
        go_wp2_with fail
        refine (HL.out _).mono ?_
        rintro e w2 ⟨rfl, rfl⟩
        go_wp2_with fail
        go_roundg (gk - k)
        case measure => omega
        case rel => exact ⟨n + k, by omega, by go_num, by rw [Hat.out, HE2.out, Nat.add_assoc], HB.out⟩
      | false =>
        rw [hl] at HL
        cases hd : digR r with
        | true =>
          have HE2 := Lib.hid (show identE s (at_ + n) = identE s (at_ + n + k) by rw [HE.out, if_pos hlt, hl, hd]; rfl)
          rw [hd] at HD
          clear hl hd
          go_wp2_with fail
          refine (HR.out _).mono ?_
          rintro e w1 ⟨rfl, hB1⟩
          have HB := Lib.hid (HBr.out.trans (hB1.mono HBr.out.size))
          clear hB1
          go_wp2_with fail
          refine (HL.out _).mono ?_
          rintro e w2 ⟨rfl, rfl⟩
          go_wp2_with fail
          refine (HD.out _).mono ?_
          rintro e w2 ⟨rfl, rfl⟩
          go_wp2_with fail
          go_roundg (gk - k)
          case measure => omega
          case rel => exact ⟨n + k, by omega, by go_num, by rw [Hat.out, HE2.out, Nat.add_assoc], HB.out⟩
        | false =>
          have HE2 : Hid (identE s at_ = at_ + n) := Lib.hid (by rw [Hat.out, HE.out, if_pos hlt, hl, hd]; rfl)
          rw [hd] at HD
          clear hl hd
          go_wp2_with fail
          refine (HR.out _).mono ?_
          rintro e w1 ⟨rfl, hB1⟩
          have HB := Lib.hid (HBr.out.trans (hB1.mono HBr.out.size))
          clear hB1
          go_wp2_with fail
          refine (HL.out _).mono ?_
          rintro e w2 ⟨rfl, rfl⟩
          go_wp2_with fail
          refine (HD.out _).mono ?_
          rintro e w2 ⟨rfl, rfl⟩
          go_wp2_with fail
          go_ret
          exact ⟨by rw [HE2.out, Nat.add_sub_cancel_left]; rfl, HB.out⟩
end Go.Proofs.YtejogobhnbjpdaaGreatDoor
namespace Go.Proofs.YtejogobhnbjpdaaGreatDoor
set_option linter.unusedVariables false
set_option linter.unusedSimpArgs false
open Go.ChangeShapes Go.WideShapes Go.ChangeAt Go.RowKit

theorem hex_pre {s : ByteArray} {q : Nat} (hq : q ≤ s.size) : hexP s q = (pre s q [48, 120] || pre s q [48, 88]) := by
  rw [Bool.eq_iff_iff, Bool.or_eq_true, pre2 s q _ _ hq, pre2 s q _ _ hq]
  unfold hexP
  simp only [Bool.and_eq_true, Bool.or_eq_true, decide_eq_true_eq]
  constructor
  · rintro ⟨h1, h2, h3 | h3⟩
    · exact .inl ⟨h1, h2, h3⟩
    · exact .inr ⟨h1, h2, h3⟩
  · rintro (⟨h1, h2, h3⟩ | ⟨h1, h2, h3⟩)
    · exact ⟨h1, h2, .inl h3⟩
    · exact ⟨h1, h2, .inr h3⟩
theorem byt_at2 (s : ByteArray) (j : Nat) (h : j < s.size) : (s[j]'h).toNat = byt s j := by unfold byt; rw [get_is s j h]
set_option maxRecDepth 100000 in
set_option maxHeartbeats 10000000 in
theorem refNumber_any (s : ByteArray) (at_ : Nat) (w : World) (hs : s.size ≤ 1048576) (ha : at_ < s.size) (hd : byt s at_ = 46 ∨ (48 ≤ byt s at_ ∧ byt s at_ ≤ 57)) :
    Calls Tryz.prog 56 #[.string s, .int .i64 at_] w fun e w' => e = .returned (.int .i64 ((numE s (hexP s at_) (at_ + 1) - at_ : Nat))) ∧ w = w' := by
  have hx := hex_pre (Nat.le_of_lt ha)
  have HB1 := Lib.hid (fun w1 => begins_any s ⟨#[48, 120]⟩ at_ w1 hs (by decide) (Nat.le_of_lt ha))
  have HB2 := Lib.hid (fun w1 => begins_any s ⟨#[48, 88]⟩ at_ w1 hs (by decide) (Nat.le_of_lt ha))
  have hp1 : pre s at_ (⟨#[48, 120]⟩ : ByteArray).data.toList = pre s at_ [48, 120] := rfl
  have hp2 : pre s at_ (⟨#[48, 88]⟩ : ByteArray).data.toList = pre s at_ [48, 88] := rfl
  rw [hp1] at HB1
  rw [hp2] at HB2
  have Hge := Lib.hid (fun hex => numE_ge s hex _ (at_ + 1) (Nat.le_refl _))
  have Hd := Lib.hid hd
  generalize hexP s at_ = hex at *
  generalize pre s at_ [48, 120] = b1 at *
  generalize pre s at_ [48, 88] = b2 at *
  clear hp1 hp2 hd
  go_enter Tryz.func56, Tryz.ntmps56
  cases b1 with
  | true =>
    have hx2 : hex = true := hx
    clear hx
    subst hx2
    go_wp2_with fail
    refine (HB1.out _).mono ?_
    rintro r w1 ⟨rfl, rfl⟩
    go_wp2_with fail
    go_loopg [6] (s.size - at_) (fun g nv wr => ∃ n : Nat, at_ + n + g = s.size ∧ nv = .int .i64 n ∧ (n = 0 ∨ (1 ≤ n ∧ numE s true (at_ + 1) = numE s true (at_ + n))) ∧ w = wr)
    case atStart => exact ⟨0, by omega, rfl, .inl rfl, rfl⟩
    case round =>
      obtain ⟨n, hng, rfl, hor, rfl⟩ := hrel
      have hcast : ((at_ : Int) + (n : Int)).toNat = at_ + n := by omega
      by_cases hq : at_ + n < s.size
      case neg =>
        have hqI : ¬ (at_ : Int) + (n : Int) < (s.size : Int) := by omega
        have HN : Hid (numE s true (at_ + 1) = at_ + n) := Lib.hid (by
          rcases hor with h | ⟨h1, h2⟩
          · omega
          · rw [h2, numE, if_neg hq])
        clear hor
        go_wp2_with fail
        go_ret
        exact ⟨by rw [HN.out, Nat.add_sub_cancel_left]; rfl, rfl⟩
      have hqI : (at_ : Int) + (n : Int) < (s.size : Int) := by omega
      have hcb := byt_at2 s (at_ + n) hq
      have h8 : (s[at_ + n]'hq).toNat ≤ 255 := by have := (s[at_ + n]'hq).toNat_lt; omega
      have HL := Lib.hid (fun w1 => refLetter_any (((s[at_ + n]'hq).toNat : Nat) : Int) w1)
      have HD := Lib.hid (fun w1 => refDigit_any (((s[at_ + n]'hq).toNat : Nat) : Int) w1)
      rcases hor with rfl | ⟨hn1, hE⟩
      · have hcb0 := byt_at2 s at_ ha
        have h80 : (s[at_]'ha).toNat ≤ 255 := by have := (s[at_]'ha).toNat_lt; omega
        have HL := Lib.hid (fun w1 => refLetter_any (((s[at_]'ha).toNat : Nat) : Int) w1)
        have HD := Lib.hid (fun w1 => refDigit_any (((s[at_]'ha).toNat : Nat) : Int) w1)
        clear hcb h8
        rcases Hd.out with h46 | hdg
        · have hc : (s[at_]'ha).toNat = 46 := by rw [hcb0]; exact h46
          clear hcb0
          have c46 : (((s[at_]'ha).toNat : Int) == 46) = true := beq_iff_eq.2 (by omega)
          have c43 : (((s[at_]'ha).toNat : Int) == 43) = false := beq_eq_false_iff_ne.2 (by omega)
          have c45 : (((s[at_]'ha).toNat : Int) == 45) = false := beq_eq_false_iff_ne.2 (by omega)
          clear hc h46
          go_wp2_with fail
          go_roundg (gk - 1)
          case measure => omega
          case rel => exact ⟨0 + 1, by omega, by go_num, .inr ⟨by omega, rfl⟩, rfl⟩
        · have hc : 48 ≤ (s[at_]'ha).toNat ∧ (s[at_]'ha).toNat ≤ 57 := by rw [hcb0]; exact hdg
          have hl : letR ((((s[at_]'ha).toNat : Nat)) : Int) = false := decide_eq_false (by omega)
          have hdd : digR ((((s[at_]'ha).toNat : Nat)) : Int) = true := decide_eq_true (by omega)
          have h128 : (((s[at_]'ha).toNat : Nat) : Int) < 128 := by omega
          rw [hl] at HL
          rw [hdd] at HD
          clear hl hdd hcb0
          have c46 : (((s[at_]'ha).toNat : Int) == 46) = false := beq_eq_false_iff_ne.2 (by omega)
          have c43 : (((s[at_]'ha).toNat : Int) == 43) = false := beq_eq_false_iff_ne.2 (by omega)
          have c45 : (((s[at_]'ha).toNat : Int) == 45) = false := beq_eq_false_iff_ne.2 (by omega)
          clear hc hdg
          go_wp2_with fail
          refine (HL.out _).mono ?_
          rintro r w1 ⟨rfl, rfl⟩
          go_wp2_with fail
          refine (HD.out _).mono ?_
          rintro r w1 ⟨rfl, rfl⟩
          go_wp2_with fail
          go_roundg (gk - 1)
          case measure => omega
          case rel => exact ⟨0 + 1, by omega, by go_num, .inr ⟨by omega, rfl⟩, rfl⟩
      · have hq1 : at_ + n - 1 < s.size := by omega
        have hpb := byt_at2 s (at_ + n - 1) hq1
        have hp8 : (s[at_ + n - 1]'hq1).toNat ≤ 255 := by have := (s[at_ + n - 1]'hq1).toNat_lt; omega
        have htn1 : ((at_ : Int) + (n : Int) - 1).toNat = at_ + n - 1 := by omega
        have hn0 : (0 : Int) < (n : Int) := by omega
        have HU := Lib.hid (show numE s true (at_ + n) = if inNum (s[at_ + n - 1]'hq1).toNat (s[at_ + n]'hq).toNat true = true then numE s true (at_ + n + 1) else at_ + n by rw [numE, if_pos hq, hpb, hcb])
        have HY := Lib.hid (show inNum (s[at_ + n - 1]'hq1).toNat (s[at_ + n]'hq).toNat true = true → numE s true (at_ + 1) = numE s true (at_ + (n + 1)) from fun h => by rw [hE, HU.out, if_pos h]; rfl)
        have HZ := Lib.hid (show ¬ inNum (s[at_ + n - 1]'hq1).toNat (s[at_ + n]'hq).toNat true = true → numE s true (at_ + 1) = at_ + n from fun h => by rw [hE, HU.out, if_neg h])
        clear hE hcb hpb
        by_cases k46 : (s[at_ + n]'hq).toNat = 46
        · have HN := Lib.hid (HY.out (by unfold inNum; rw [if_pos k46]))
          have c46 : (((s[at_ + n]'hq).toNat : Int) == 46) = true := beq_iff_eq.2 (by omega)
          have c43 : (((s[at_ + n]'hq).toNat : Int) == 43) = false := beq_eq_false_iff_ne.2 (by omega)
          have c45 : (((s[at_ + n]'hq).toNat : Int) == 45) = false := beq_eq_false_iff_ne.2 (by omega)
          clear k46
          go_wp2_with fail
          go_roundg (gk - 1)
          case measure => omega
          case rel => exact ⟨n + 1, by omega, by go_num, .inr ⟨by omega, by exact HN.out⟩, rfl⟩
        by_cases k4 : (s[at_ + n]'hq).toNat = 43 ∨ (s[at_ + n]'hq).toNat = 45
        · have hl : letR ((((s[at_ + n]'hq).toNat : Nat)) : Int) = false := decide_eq_false (by omega)
          have hdd : digR ((((s[at_ + n]'hq).toNat : Nat)) : Int) = false := decide_eq_false (by omega)
          have h128 : (((s[at_ + n]'hq).toNat : Nat) : Int) < 128 := by omega
          rw [hl] at HL
          rw [hdd] at HD
          clear hl hdd
          have hin : inNum (s[at_ + n - 1]'hq1).toNat (s[at_ + n]'hq).toNat true = (decide ((s[at_ + n - 1]'hq1).toNat = 112 ∨ (s[at_ + n - 1]'hq1).toNat = 80) || (!true && decide ((s[at_ + n - 1]'hq1).toNat = 101 ∨ (s[at_ + n - 1]'hq1).toNat = 69))) := by unfold inNum; rw [if_neg k46, if_pos k4]
          rcases k4 with k4 | k4
          · have c46 : (((s[at_ + n]'hq).toNat : Int) == 46) = false := beq_eq_false_iff_ne.2 (by omega)
            have c43 : (((s[at_ + n]'hq).toNat : Int) == 43) = true := beq_iff_eq.2 (by omega)
            have c45 : (((s[at_ + n]'hq).toNat : Int) == 45) = false := beq_eq_false_iff_ne.2 (by omega)
            rcases (by omega : (s[at_ + n - 1]'hq1).toNat = 112 ∨ (s[at_ + n - 1]'hq1).toNat = 80 ∨ (s[at_ + n - 1]'hq1).toNat = 101 ∨ (s[at_ + n - 1]'hq1).toNat = 69 ∨ ((s[at_ + n - 1]'hq1).toNat ≠ 112 ∧ (s[at_ + n - 1]'hq1).toNat ≠ 80 ∧ (s[at_ + n - 1]'hq1).toNat ≠ 101 ∧ (s[at_ + n - 1]'hq1).toNat ≠ 69)) with kp | kp | kp | kp | kp
            · have p112 : (((s[at_ + n - 1]'hq1).toNat : Int) == 112) = true := beq_iff_eq.2 (by omega)
              have p80 : (((s[at_ + n - 1]'hq1).toNat : Int) == 80) = false := beq_eq_false_iff_ne.2 (by omega)
              have p101 : (((s[at_ + n - 1]'hq1).toNat : Int) == 101) = false := beq_eq_false_iff_ne.2 (by omega)
              have p69 : (((s[at_ + n - 1]'hq1).toNat : Int) == 69) = false := beq_eq_false_iff_ne.2 (by omega)
              have HN := Lib.hid (HY.out (by rw [hin]; simp [kp]))
              clear hin kp k46 k4
              go_wp2_with fail
              refine (HL.out _).mono ?_
              rintro r w1 ⟨rfl, rfl⟩
              go_wp2_with fail
              refine (HD.out _).mono ?_
              rintro r w1 ⟨rfl, rfl⟩
              go_wp2_with fail
              go_roundg (gk - 1)
              case measure => omega
              case rel => exact ⟨n + 1, by omega, by go_num, .inr ⟨by omega, by exact HN.out⟩, rfl⟩
            · have p112 : (((s[at_ + n - 1]'hq1).toNat : Int) == 112) = false := beq_eq_false_iff_ne.2 (by omega)
              have p80 : (((s[at_ + n - 1]'hq1).toNat : Int) == 80) = true := beq_iff_eq.2 (by omega)
              have p101 : (((s[at_ + n - 1]'hq1).toNat : Int) == 101) = false := beq_eq_false_iff_ne.2 (by omega)
              have p69 : (((s[at_ + n - 1]'hq1).toNat : Int) == 69) = false := beq_eq_false_iff_ne.2 (by omega)
              have HN := Lib.hid (HY.out (by rw [hin]; simp [kp]))
              clear hin kp k46 k4
              go_wp2_with fail
              refine (HL.out _).mono ?_
              rintro r w1 ⟨rfl, rfl⟩
              go_wp2_with fail
              refine (HD.out _).mono ?_
              rintro r w1 ⟨rfl, rfl⟩
              go_wp2_with fail
              go_roundg (gk - 1)
              case measure => omega
              case rel => exact ⟨n + 1, by omega, by go_num, .inr ⟨by omega, by exact HN.out⟩, rfl⟩
            · have p112 : (((s[at_ + n - 1]'hq1).toNat : Int) == 112) = false := beq_eq_false_iff_ne.2 (by omega)
              have p80 : (((s[at_ + n - 1]'hq1).toNat : Int) == 80) = false := beq_eq_false_iff_ne.2 (by omega)
              have p101 : (((s[at_ + n - 1]'hq1).toNat : Int) == 101) = true := beq_iff_eq.2 (by omega)
              have p69 : (((s[at_ + n - 1]'hq1).toNat : Int) == 69) = false := beq_eq_false_iff_ne.2 (by omega)
              have HN := Lib.hid (HZ.out (by rw [hin]; simp [kp]))
              clear hin kp k46 k4
              go_wp2_with fail
              refine (HL.out _).mono ?_
              rintro r w1 ⟨rfl, rfl⟩
              go_wp2_with fail
              refine (HD.out _).mono ?_
              rintro r w1 ⟨rfl, rfl⟩
              go_wp2_with fail
              go_ret
              exact ⟨by rw [HN.out, Nat.add_sub_cancel_left]; rfl, rfl⟩
            · have p112 : (((s[at_ + n - 1]'hq1).toNat : Int) == 112) = false := beq_eq_false_iff_ne.2 (by omega)
              have p80 : (((s[at_ + n - 1]'hq1).toNat : Int) == 80) = false := beq_eq_false_iff_ne.2 (by omega)
              have p101 : (((s[at_ + n - 1]'hq1).toNat : Int) == 101) = false := beq_eq_false_iff_ne.2 (by omega)
              have p69 : (((s[at_ + n - 1]'hq1).toNat : Int) == 69) = true := beq_iff_eq.2 (by omega)
              have HN := Lib.hid (HZ.out (by rw [hin]; simp [kp]))
              clear hin kp k46 k4
              go_wp2_with fail
              refine (HL.out _).mono ?_
              rintro r w1 ⟨rfl, rfl⟩
              go_wp2_with fail
              refine (HD.out _).mono ?_
              rintro r w1 ⟨rfl, rfl⟩
              go_wp2_with fail
              go_ret
              exact ⟨by rw [HN.out, Nat.add_sub_cancel_left]; rfl, rfl⟩
            · have p112 : (((s[at_ + n - 1]'hq1).toNat : Int) == 112) = false := beq_eq_false_iff_ne.2 (by omega)
              have p80 : (((s[at_ + n - 1]'hq1).toNat : Int) == 80) = false := beq_eq_false_iff_ne.2 (by omega)
              have p101 : (((s[at_ + n - 1]'hq1).toNat : Int) == 101) = false := beq_eq_false_iff_ne.2 (by omega)
              have p69 : (((s[at_ + n - 1]'hq1).toNat : Int) == 69) = false := beq_eq_false_iff_ne.2 (by omega)
              have HN := Lib.hid (HZ.out (by rw [hin]; simp [kp.1, kp.2.1, kp.2.2.1, kp.2.2.2]))
              clear hin kp k46 k4
              go_wp2_with fail
              refine (HL.out _).mono ?_
              rintro r w1 ⟨rfl, rfl⟩
              go_wp2_with fail
              refine (HD.out _).mono ?_
              rintro r w1 ⟨rfl, rfl⟩
              go_wp2_with fail
              go_ret
              exact ⟨by rw [HN.out, Nat.add_sub_cancel_left]; rfl, rfl⟩
          · have c46 : (((s[at_ + n]'hq).toNat : Int) == 46) = false := beq_eq_false_iff_ne.2 (by omega)
            have c43 : (((s[at_ + n]'hq).toNat : Int) == 43) = false := beq_eq_false_iff_ne.2 (by omega)
            have c45 : (((s[at_ + n]'hq).toNat : Int) == 45) = true := beq_iff_eq.2 (by omega)
            rcases (by omega : (s[at_ + n - 1]'hq1).toNat = 112 ∨ (s[at_ + n - 1]'hq1).toNat = 80 ∨ (s[at_ + n - 1]'hq1).toNat = 101 ∨ (s[at_ + n - 1]'hq1).toNat = 69 ∨ ((s[at_ + n - 1]'hq1).toNat ≠ 112 ∧ (s[at_ + n - 1]'hq1).toNat ≠ 80 ∧ (s[at_ + n - 1]'hq1).toNat ≠ 101 ∧ (s[at_ + n - 1]'hq1).toNat ≠ 69)) with kp | kp | kp | kp | kp
            · have p112 : (((s[at_ + n - 1]'hq1).toNat : Int) == 112) = true := beq_iff_eq.2 (by omega)
              have p80 : (((s[at_ + n - 1]'hq1).toNat : Int) == 80) = false := beq_eq_false_iff_ne.2 (by omega)
              have p101 : (((s[at_ + n - 1]'hq1).toNat : Int) == 101) = false := beq_eq_false_iff_ne.2 (by omega)
              have p69 : (((s[at_ + n - 1]'hq1).toNat : Int) == 69) = false := beq_eq_false_iff_ne.2 (by omega)
              have HN := Lib.hid (HY.out (by rw [hin]; simp [kp]))
              clear hin kp k46 k4
              go_wp2_with fail
              refine (HL.out _).mono ?_
              rintro r w1 ⟨rfl, rfl⟩
              go_wp2_with fail
              refine (HD.out _).mono ?_
              rintro r w1 ⟨rfl, rfl⟩
              go_wp2_with fail
              go_roundg (gk - 1)
              case measure => omega
              case rel => exact ⟨n + 1, by omega, by go_num, .inr ⟨by omega, by exact HN.out⟩, rfl⟩
            · have p112 : (((s[at_ + n - 1]'hq1).toNat : Int) == 112) = false := beq_eq_false_iff_ne.2 (by omega)
              have p80 : (((s[at_ + n - 1]'hq1).toNat : Int) == 80) = true := beq_iff_eq.2 (by omega)
              have p101 : (((s[at_ + n - 1]'hq1).toNat : Int) == 101) = false := beq_eq_false_iff_ne.2 (by omega)
              have p69 : (((s[at_ + n - 1]'hq1).toNat : Int) == 69) = false := beq_eq_false_iff_ne.2 (by omega)
              have HN := Lib.hid (HY.out (by rw [hin]; simp [kp]))
              clear hin kp k46 k4
              go_wp2_with fail
              refine (HL.out _).mono ?_
              rintro r w1 ⟨rfl, rfl⟩
              go_wp2_with fail
              refine (HD.out _).mono ?_
              rintro r w1 ⟨rfl, rfl⟩
              go_wp2_with fail
              go_roundg (gk - 1)
              case measure => omega
              case rel => exact ⟨n + 1, by omega, by go_num, .inr ⟨by omega, by exact HN.out⟩, rfl⟩
            · have p112 : (((s[at_ + n - 1]'hq1).toNat : Int) == 112) = false := beq_eq_false_iff_ne.2 (by omega)
              have p80 : (((s[at_ + n - 1]'hq1).toNat : Int) == 80) = false := beq_eq_false_iff_ne.2 (by omega)
              have p101 : (((s[at_ + n - 1]'hq1).toNat : Int) == 101) = true := beq_iff_eq.2 (by omega)
              have p69 : (((s[at_ + n - 1]'hq1).toNat : Int) == 69) = false := beq_eq_false_iff_ne.2 (by omega)
              have HN := Lib.hid (HZ.out (by rw [hin]; simp [kp]))
              clear hin kp k46 k4
              go_wp2_with fail
              refine (HL.out _).mono ?_
              rintro r w1 ⟨rfl, rfl⟩
              go_wp2_with fail
              refine (HD.out _).mono ?_
              rintro r w1 ⟨rfl, rfl⟩
              go_wp2_with fail
              go_ret
              exact ⟨by rw [HN.out, Nat.add_sub_cancel_left]; rfl, rfl⟩
            · have p112 : (((s[at_ + n - 1]'hq1).toNat : Int) == 112) = false := beq_eq_false_iff_ne.2 (by omega)
              have p80 : (((s[at_ + n - 1]'hq1).toNat : Int) == 80) = false := beq_eq_false_iff_ne.2 (by omega)
              have p101 : (((s[at_ + n - 1]'hq1).toNat : Int) == 101) = false := beq_eq_false_iff_ne.2 (by omega)
              have p69 : (((s[at_ + n - 1]'hq1).toNat : Int) == 69) = true := beq_iff_eq.2 (by omega)
              have HN := Lib.hid (HZ.out (by rw [hin]; simp [kp]))
              clear hin kp k46 k4
              go_wp2_with fail
              refine (HL.out _).mono ?_
              rintro r w1 ⟨rfl, rfl⟩
              go_wp2_with fail
              refine (HD.out _).mono ?_
              rintro r w1 ⟨rfl, rfl⟩
              go_wp2_with fail
              go_ret
              exact ⟨by rw [HN.out, Nat.add_sub_cancel_left]; rfl, rfl⟩
            · have p112 : (((s[at_ + n - 1]'hq1).toNat : Int) == 112) = false := beq_eq_false_iff_ne.2 (by omega)
              have p80 : (((s[at_ + n - 1]'hq1).toNat : Int) == 80) = false := beq_eq_false_iff_ne.2 (by omega)
              have p101 : (((s[at_ + n - 1]'hq1).toNat : Int) == 101) = false := beq_eq_false_iff_ne.2 (by omega)
              have p69 : (((s[at_ + n - 1]'hq1).toNat : Int) == 69) = false := beq_eq_false_iff_ne.2 (by omega)
              have HN := Lib.hid (HZ.out (by rw [hin]; simp [kp.1, kp.2.1, kp.2.2.1, kp.2.2.2]))
              clear hin kp k46 k4
              go_wp2_with fail
              refine (HL.out _).mono ?_
              rintro r w1 ⟨rfl, rfl⟩
              go_wp2_with fail
              refine (HD.out _).mono ?_
              rintro r w1 ⟨rfl, rfl⟩
              go_wp2_with fail
              go_ret
              exact ⟨by rw [HN.out, Nat.add_sub_cancel_left]; rfl, rfl⟩
        have hin : inNum (s[at_ + n - 1]'hq1).toNat (s[at_ + n]'hq).toNat true = (decide ((s[at_ + n]'hq).toNat < 128) && (letR ((((s[at_ + n]'hq).toNat : Nat)) : Int) || digR ((((s[at_ + n]'hq).toNat : Nat)) : Int))) := by unfold inNum; rw [if_neg k46, if_neg k4]
        have c46 : (((s[at_ + n]'hq).toNat : Int) == 46) = false := beq_eq_false_iff_ne.2 (by omega)
        have c43 : (((s[at_ + n]'hq).toNat : Int) == 43) = false := beq_eq_false_iff_ne.2 (by omega)
        have c45 : (((s[at_ + n]'hq).toNat : Int) == 45) = false := beq_eq_false_iff_ne.2 (by omega)
        by_cases k128 : (s[at_ + n]'hq).toNat < 128
        · have h128 : (((s[at_ + n]'hq).toNat : Nat) : Int) < 128 := by omega
          rw [decide_eq_true k128, Bool.true_and] at hin
          cases hl : letR ((((s[at_ + n]'hq).toNat : Nat)) : Int) with
          | true =>
            have HN := Lib.hid (HY.out (by rw [hin, hl]; rfl))
            rw [hl] at HL
            clear hl hin k46 k4 k128
            go_wp2_with fail
            refine (HL.out _).mono ?_
            rintro r w1 ⟨rfl, rfl⟩
            go_wp2_with fail
            go_roundg (gk - 1)
            case measure => omega
            case rel => exact ⟨n + 1, by omega, by go_num, .inr ⟨by omega, by exact HN.out⟩, rfl⟩
          | false =>
            cases hdd : digR ((((s[at_ + n]'hq).toNat : Nat)) : Int) with
            | true =>
              have HN := Lib.hid (HY.out (by rw [hin, hl, hdd]; rfl))
              rw [hl] at HL
              rw [hdd] at HD
              clear hl hdd hin k46 k4 k128
              go_wp2_with fail
              refine (HL.out _).mono ?_
              rintro r w1 ⟨rfl, rfl⟩
              go_wp2_with fail
              refine (HD.out _).mono ?_
              rintro r w1 ⟨rfl, rfl⟩
              go_wp2_with fail
              go_roundg (gk - 1)
              case measure => omega
              case rel => exact ⟨n + 1, by omega, by go_num, .inr ⟨by omega, by exact HN.out⟩, rfl⟩
            | false =>
              have HN := Lib.hid (HZ.out (by rw [hin, hl, hdd]; decide))
              rw [hl] at HL
              rw [hdd] at HD
              clear hl hdd hin k46 k4 k128
              go_wp2_with fail
              refine (HL.out _).mono ?_
              rintro r w1 ⟨rfl, rfl⟩
              go_wp2_with fail
              refine (HD.out _).mono ?_
              rintro r w1 ⟨rfl, rfl⟩
              go_wp2_with fail
              go_ret
              exact ⟨by rw [HN.out, Nat.add_sub_cancel_left]; rfl, rfl⟩
        · have h128 : ¬ (((s[at_ + n]'hq).toNat : Nat) : Int) < 128 := by omega
          have HN := Lib.hid (HZ.out (by rw [hin, decide_eq_false k128]; simp))
          clear hin k46 k4 k128
          go_wp2_with fail
          go_ret
          exact ⟨by rw [HN.out, Nat.add_sub_cancel_left]; rfl, rfl⟩
  | false =>
    cases b2 with
    | true =>
      have hx2 : hex = true := hx
      clear hx
      subst hx2
      go_wp2_with fail
      refine (HB1.out _).mono ?_
      rintro r w1 ⟨rfl, rfl⟩
      go_wp2_with fail
      refine (HB2.out _).mono ?_
      rintro r w1 ⟨rfl, rfl⟩
      go_wp2_with fail
      go_loopg [6] (s.size - at_) (fun g nv wr => ∃ n : Nat, at_ + n + g = s.size ∧ nv = .int .i64 n ∧ (n = 0 ∨ (1 ≤ n ∧ numE s true (at_ + 1) = numE s true (at_ + n))) ∧ w = wr)
      case atStart => exact ⟨0, by omega, rfl, .inl rfl, rfl⟩
      case round =>
        obtain ⟨n, hng, rfl, hor, rfl⟩ := hrel
        have hcast : ((at_ : Int) + (n : Int)).toNat = at_ + n := by omega
        by_cases hq : at_ + n < s.size
        case neg =>
          have hqI : ¬ (at_ : Int) + (n : Int) < (s.size : Int) := by omega
          have HN : Hid (numE s true (at_ + 1) = at_ + n) := Lib.hid (by
            rcases hor with h | ⟨h1, h2⟩
            · omega
            · rw [h2, numE, if_neg hq])
          clear hor
          go_wp2_with fail
          go_ret
          exact ⟨by rw [HN.out, Nat.add_sub_cancel_left]; rfl, rfl⟩
        have hqI : (at_ : Int) + (n : Int) < (s.size : Int) := by omega
        have hcb := byt_at2 s (at_ + n) hq
        have h8 : (s[at_ + n]'hq).toNat ≤ 255 := by have := (s[at_ + n]'hq).toNat_lt; omega
        have HL := Lib.hid (fun w1 => refLetter_any (((s[at_ + n]'hq).toNat : Nat) : Int) w1)
        have HD := Lib.hid (fun w1 => refDigit_any (((s[at_ + n]'hq).toNat : Nat) : Int) w1)
        rcases hor with rfl | ⟨hn1, hE⟩
        · have hcb0 := byt_at2 s at_ ha
          have h80 : (s[at_]'ha).toNat ≤ 255 := by have := (s[at_]'ha).toNat_lt; omega
          have HL := Lib.hid (fun w1 => refLetter_any (((s[at_]'ha).toNat : Nat) : Int) w1)
          have HD := Lib.hid (fun w1 => refDigit_any (((s[at_]'ha).toNat : Nat) : Int) w1)
          clear hcb h8
          rcases Hd.out with h46 | hdg
          · have hc : (s[at_]'ha).toNat = 46 := by rw [hcb0]; exact h46
            clear hcb0
            have c46 : (((s[at_]'ha).toNat : Int) == 46) = true := beq_iff_eq.2 (by omega)
            have c43 : (((s[at_]'ha).toNat : Int) == 43) = false := beq_eq_false_iff_ne.2 (by omega)
            have c45 : (((s[at_]'ha).toNat : Int) == 45) = false := beq_eq_false_iff_ne.2 (by omega)
            clear hc h46
            go_wp2_with fail
            go_roundg (gk - 1)
            case measure => omega
            case rel => exact ⟨0 + 1, by omega, by go_num, .inr ⟨by omega, rfl⟩, rfl⟩
          · have hc : 48 ≤ (s[at_]'ha).toNat ∧ (s[at_]'ha).toNat ≤ 57 := by rw [hcb0]; exact hdg
            have hl : letR ((((s[at_]'ha).toNat : Nat)) : Int) = false := decide_eq_false (by omega)
            have hdd : digR ((((s[at_]'ha).toNat : Nat)) : Int) = true := decide_eq_true (by omega)
            have h128 : (((s[at_]'ha).toNat : Nat) : Int) < 128 := by omega
            rw [hl] at HL
            rw [hdd] at HD
            clear hl hdd hcb0
            have c46 : (((s[at_]'ha).toNat : Int) == 46) = false := beq_eq_false_iff_ne.2 (by omega)
            have c43 : (((s[at_]'ha).toNat : Int) == 43) = false := beq_eq_false_iff_ne.2 (by omega)
            have c45 : (((s[at_]'ha).toNat : Int) == 45) = false := beq_eq_false_iff_ne.2 (by omega)
            clear hc hdg
            go_wp2_with fail
            refine (HL.out _).mono ?_
            rintro r w1 ⟨rfl, rfl⟩
            go_wp2_with fail
            refine (HD.out _).mono ?_
            rintro r w1 ⟨rfl, rfl⟩
            go_wp2_with fail
            go_roundg (gk - 1)
            case measure => omega
            case rel => exact ⟨0 + 1, by omega, by go_num, .inr ⟨by omega, rfl⟩, rfl⟩
        · have hq1 : at_ + n - 1 < s.size := by omega
          have hpb := byt_at2 s (at_ + n - 1) hq1
          have hp8 : (s[at_ + n - 1]'hq1).toNat ≤ 255 := by have := (s[at_ + n - 1]'hq1).toNat_lt; omega
          have htn1 : ((at_ : Int) + (n : Int) - 1).toNat = at_ + n - 1 := by omega
          have hn0 : (0 : Int) < (n : Int) := by omega
          have HU := Lib.hid (show numE s true (at_ + n) = if inNum (s[at_ + n - 1]'hq1).toNat (s[at_ + n]'hq).toNat true = true then numE s true (at_ + n + 1) else at_ + n by rw [numE, if_pos hq, hpb, hcb])
          have HY := Lib.hid (show inNum (s[at_ + n - 1]'hq1).toNat (s[at_ + n]'hq).toNat true = true → numE s true (at_ + 1) = numE s true (at_ + (n + 1)) from fun h => by rw [hE, HU.out, if_pos h]; rfl)
          have HZ := Lib.hid (show ¬ inNum (s[at_ + n - 1]'hq1).toNat (s[at_ + n]'hq).toNat true = true → numE s true (at_ + 1) = at_ + n from fun h => by rw [hE, HU.out, if_neg h])
          clear hE hcb hpb
          by_cases k46 : (s[at_ + n]'hq).toNat = 46
          · have HN := Lib.hid (HY.out (by unfold inNum; rw [if_pos k46]))
            have c46 : (((s[at_ + n]'hq).toNat : Int) == 46) = true := beq_iff_eq.2 (by omega)
            have c43 : (((s[at_ + n]'hq).toNat : Int) == 43) = false := beq_eq_false_iff_ne.2 (by omega)
            have c45 : (((s[at_ + n]'hq).toNat : Int) == 45) = false := beq_eq_false_iff_ne.2 (by omega)
            clear k46
            go_wp2_with fail
            go_roundg (gk - 1)
            case measure => omega
            case rel => exact ⟨n + 1, by omega, by go_num, .inr ⟨by omega, by exact HN.out⟩, rfl⟩
          by_cases k4 : (s[at_ + n]'hq).toNat = 43 ∨ (s[at_ + n]'hq).toNat = 45
          · have hl : letR ((((s[at_ + n]'hq).toNat : Nat)) : Int) = false := decide_eq_false (by omega)
            have hdd : digR ((((s[at_ + n]'hq).toNat : Nat)) : Int) = false := decide_eq_false (by omega)
            have h128 : (((s[at_ + n]'hq).toNat : Nat) : Int) < 128 := by omega
            rw [hl] at HL
            rw [hdd] at HD
            clear hl hdd
            have hin : inNum (s[at_ + n - 1]'hq1).toNat (s[at_ + n]'hq).toNat true = (decide ((s[at_ + n - 1]'hq1).toNat = 112 ∨ (s[at_ + n - 1]'hq1).toNat = 80) || (!true && decide ((s[at_ + n - 1]'hq1).toNat = 101 ∨ (s[at_ + n - 1]'hq1).toNat = 69))) := by unfold inNum; rw [if_neg k46, if_pos k4]
            rcases k4 with k4 | k4
            · have c46 : (((s[at_ + n]'hq).toNat : Int) == 46) = false := beq_eq_false_iff_ne.2 (by omega)
              have c43 : (((s[at_ + n]'hq).toNat : Int) == 43) = true := beq_iff_eq.2 (by omega)
              have c45 : (((s[at_ + n]'hq).toNat : Int) == 45) = false := beq_eq_false_iff_ne.2 (by omega)
              rcases (by omega : (s[at_ + n - 1]'hq1).toNat = 112 ∨ (s[at_ + n - 1]'hq1).toNat = 80 ∨ (s[at_ + n - 1]'hq1).toNat = 101 ∨ (s[at_ + n - 1]'hq1).toNat = 69 ∨ ((s[at_ + n - 1]'hq1).toNat ≠ 112 ∧ (s[at_ + n - 1]'hq1).toNat ≠ 80 ∧ (s[at_ + n - 1]'hq1).toNat ≠ 101 ∧ (s[at_ + n - 1]'hq1).toNat ≠ 69)) with kp | kp | kp | kp | kp
              · have p112 : (((s[at_ + n - 1]'hq1).toNat : Int) == 112) = true := beq_iff_eq.2 (by omega)
                have p80 : (((s[at_ + n - 1]'hq1).toNat : Int) == 80) = false := beq_eq_false_iff_ne.2 (by omega)
                have p101 : (((s[at_ + n - 1]'hq1).toNat : Int) == 101) = false := beq_eq_false_iff_ne.2 (by omega)
                have p69 : (((s[at_ + n - 1]'hq1).toNat : Int) == 69) = false := beq_eq_false_iff_ne.2 (by omega)
                have HN := Lib.hid (HY.out (by rw [hin]; simp [kp]))
                clear hin kp k46 k4
                go_wp2_with fail
                refine (HL.out _).mono ?_
                rintro r w1 ⟨rfl, rfl⟩
                go_wp2_with fail
                refine (HD.out _).mono ?_
                rintro r w1 ⟨rfl, rfl⟩
                go_wp2_with fail
                go_roundg (gk - 1)
                case measure => omega
                case rel => exact ⟨n + 1, by omega, by go_num, .inr ⟨by omega, by exact HN.out⟩, rfl⟩
              · have p112 : (((s[at_ + n - 1]'hq1).toNat : Int) == 112) = false := beq_eq_false_iff_ne.2 (by omega)
                have p80 : (((s[at_ + n - 1]'hq1).toNat : Int) == 80) = true := beq_iff_eq.2 (by omega)
                have p101 : (((s[at_ + n - 1]'hq1).toNat : Int) == 101) = false := beq_eq_false_iff_ne.2 (by omega)
                have p69 : (((s[at_ + n - 1]'hq1).toNat : Int) == 69) = false := beq_eq_false_iff_ne.2 (by omega)
                have HN := Lib.hid (HY.out (by rw [hin]; simp [kp]))
                clear hin kp k46 k4
                go_wp2_with fail
                refine (HL.out _).mono ?_
                rintro r w1 ⟨rfl, rfl⟩
                go_wp2_with fail
                refine (HD.out _).mono ?_
                rintro r w1 ⟨rfl, rfl⟩
                go_wp2_with fail
                go_roundg (gk - 1)
                case measure => omega
                case rel => exact ⟨n + 1, by omega, by go_num, .inr ⟨by omega, by exact HN.out⟩, rfl⟩
              · have p112 : (((s[at_ + n - 1]'hq1).toNat : Int) == 112) = false := beq_eq_false_iff_ne.2 (by omega)
                have p80 : (((s[at_ + n - 1]'hq1).toNat : Int) == 80) = false := beq_eq_false_iff_ne.2 (by omega)
                have p101 : (((s[at_ + n - 1]'hq1).toNat : Int) == 101) = true := beq_iff_eq.2 (by omega)
                have p69 : (((s[at_ + n - 1]'hq1).toNat : Int) == 69) = false := beq_eq_false_iff_ne.2 (by omega)
                have HN := Lib.hid (HZ.out (by rw [hin]; simp [kp]))
                clear hin kp k46 k4
                go_wp2_with fail
                refine (HL.out _).mono ?_
                rintro r w1 ⟨rfl, rfl⟩
                go_wp2_with fail
                refine (HD.out _).mono ?_
                rintro r w1 ⟨rfl, rfl⟩
                go_wp2_with fail
                go_ret
                exact ⟨by rw [HN.out, Nat.add_sub_cancel_left]; rfl, rfl⟩
              · have p112 : (((s[at_ + n - 1]'hq1).toNat : Int) == 112) = false := beq_eq_false_iff_ne.2 (by omega)
                have p80 : (((s[at_ + n - 1]'hq1).toNat : Int) == 80) = false := beq_eq_false_iff_ne.2 (by omega)
                have p101 : (((s[at_ + n - 1]'hq1).toNat : Int) == 101) = false := beq_eq_false_iff_ne.2 (by omega)
                have p69 : (((s[at_ + n - 1]'hq1).toNat : Int) == 69) = true := beq_iff_eq.2 (by omega)
                have HN := Lib.hid (HZ.out (by rw [hin]; simp [kp]))
                clear hin kp k46 k4
                go_wp2_with fail
                refine (HL.out _).mono ?_
                rintro r w1 ⟨rfl, rfl⟩
                go_wp2_with fail
                refine (HD.out _).mono ?_
                rintro r w1 ⟨rfl, rfl⟩
                go_wp2_with fail
                go_ret
                exact ⟨by rw [HN.out, Nat.add_sub_cancel_left]; rfl, rfl⟩
              · have p112 : (((s[at_ + n - 1]'hq1).toNat : Int) == 112) = false := beq_eq_false_iff_ne.2 (by omega)
                have p80 : (((s[at_ + n - 1]'hq1).toNat : Int) == 80) = false := beq_eq_false_iff_ne.2 (by omega)
                have p101 : (((s[at_ + n - 1]'hq1).toNat : Int) == 101) = false := beq_eq_false_iff_ne.2 (by omega)
                have p69 : (((s[at_ + n - 1]'hq1).toNat : Int) == 69) = false := beq_eq_false_iff_ne.2 (by omega)
                have HN := Lib.hid (HZ.out (by rw [hin]; simp [kp.1, kp.2.1, kp.2.2.1, kp.2.2.2]))
                clear hin kp k46 k4
                go_wp2_with fail
                refine (HL.out _).mono ?_
                rintro r w1 ⟨rfl, rfl⟩
                go_wp2_with fail
                refine (HD.out _).mono ?_
                rintro r w1 ⟨rfl, rfl⟩
                go_wp2_with fail
                go_ret
                exact ⟨by rw [HN.out, Nat.add_sub_cancel_left]; rfl, rfl⟩
            · have c46 : (((s[at_ + n]'hq).toNat : Int) == 46) = false := beq_eq_false_iff_ne.2 (by omega)
              have c43 : (((s[at_ + n]'hq).toNat : Int) == 43) = false := beq_eq_false_iff_ne.2 (by omega)
              have c45 : (((s[at_ + n]'hq).toNat : Int) == 45) = true := beq_iff_eq.2 (by omega)
              rcases (by omega : (s[at_ + n - 1]'hq1).toNat = 112 ∨ (s[at_ + n - 1]'hq1).toNat = 80 ∨ (s[at_ + n - 1]'hq1).toNat = 101 ∨ (s[at_ + n - 1]'hq1).toNat = 69 ∨ ((s[at_ + n - 1]'hq1).toNat ≠ 112 ∧ (s[at_ + n - 1]'hq1).toNat ≠ 80 ∧ (s[at_ + n - 1]'hq1).toNat ≠ 101 ∧ (s[at_ + n - 1]'hq1).toNat ≠ 69)) with kp | kp | kp | kp | kp
              · have p112 : (((s[at_ + n - 1]'hq1).toNat : Int) == 112) = true := beq_iff_eq.2 (by omega)
                have p80 : (((s[at_ + n - 1]'hq1).toNat : Int) == 80) = false := beq_eq_false_iff_ne.2 (by omega)
                have p101 : (((s[at_ + n - 1]'hq1).toNat : Int) == 101) = false := beq_eq_false_iff_ne.2 (by omega)
                have p69 : (((s[at_ + n - 1]'hq1).toNat : Int) == 69) = false := beq_eq_false_iff_ne.2 (by omega)
                have HN := Lib.hid (HY.out (by rw [hin]; simp [kp]))
                clear hin kp k46 k4
                go_wp2_with fail
                refine (HL.out _).mono ?_
                rintro r w1 ⟨rfl, rfl⟩
                go_wp2_with fail
                refine (HD.out _).mono ?_
                rintro r w1 ⟨rfl, rfl⟩
                go_wp2_with fail
                go_roundg (gk - 1)
                case measure => omega
                case rel => exact ⟨n + 1, by omega, by go_num, .inr ⟨by omega, by exact HN.out⟩, rfl⟩
              · have p112 : (((s[at_ + n - 1]'hq1).toNat : Int) == 112) = false := beq_eq_false_iff_ne.2 (by omega)
                have p80 : (((s[at_ + n - 1]'hq1).toNat : Int) == 80) = true := beq_iff_eq.2 (by omega)
                have p101 : (((s[at_ + n - 1]'hq1).toNat : Int) == 101) = false := beq_eq_false_iff_ne.2 (by omega)
                have p69 : (((s[at_ + n - 1]'hq1).toNat : Int) == 69) = false := beq_eq_false_iff_ne.2 (by omega)
                have HN := Lib.hid (HY.out (by rw [hin]; simp [kp]))
                clear hin kp k46 k4
                go_wp2_with fail
                refine (HL.out _).mono ?_
                rintro r w1 ⟨rfl, rfl⟩
                go_wp2_with fail
                refine (HD.out _).mono ?_
                rintro r w1 ⟨rfl, rfl⟩
                go_wp2_with fail
                go_roundg (gk - 1)
                case measure => omega
                case rel => exact ⟨n + 1, by omega, by go_num, .inr ⟨by omega, by exact HN.out⟩, rfl⟩
              · have p112 : (((s[at_ + n - 1]'hq1).toNat : Int) == 112) = false := beq_eq_false_iff_ne.2 (by omega)
                have p80 : (((s[at_ + n - 1]'hq1).toNat : Int) == 80) = false := beq_eq_false_iff_ne.2 (by omega)
                have p101 : (((s[at_ + n - 1]'hq1).toNat : Int) == 101) = true := beq_iff_eq.2 (by omega)
                have p69 : (((s[at_ + n - 1]'hq1).toNat : Int) == 69) = false := beq_eq_false_iff_ne.2 (by omega)
                have HN := Lib.hid (HZ.out (by rw [hin]; simp [kp]))
                clear hin kp k46 k4
                go_wp2_with fail
                refine (HL.out _).mono ?_
                rintro r w1 ⟨rfl, rfl⟩
                go_wp2_with fail
                refine (HD.out _).mono ?_
                rintro r w1 ⟨rfl, rfl⟩
                go_wp2_with fail
                go_ret
                exact ⟨by rw [HN.out, Nat.add_sub_cancel_left]; rfl, rfl⟩
              · have p112 : (((s[at_ + n - 1]'hq1).toNat : Int) == 112) = false := beq_eq_false_iff_ne.2 (by omega)
                have p80 : (((s[at_ + n - 1]'hq1).toNat : Int) == 80) = false := beq_eq_false_iff_ne.2 (by omega)
                have p101 : (((s[at_ + n - 1]'hq1).toNat : Int) == 101) = false := beq_eq_false_iff_ne.2 (by omega)
                have p69 : (((s[at_ + n - 1]'hq1).toNat : Int) == 69) = true := beq_iff_eq.2 (by omega)
                have HN := Lib.hid (HZ.out (by rw [hin]; simp [kp]))
                clear hin kp k46 k4
                go_wp2_with fail
                refine (HL.out _).mono ?_
                rintro r w1 ⟨rfl, rfl⟩
                go_wp2_with fail
                refine (HD.out _).mono ?_
                rintro r w1 ⟨rfl, rfl⟩
                go_wp2_with fail
                go_ret
                exact ⟨by rw [HN.out, Nat.add_sub_cancel_left]; rfl, rfl⟩
              · have p112 : (((s[at_ + n - 1]'hq1).toNat : Int) == 112) = false := beq_eq_false_iff_ne.2 (by omega)
                have p80 : (((s[at_ + n - 1]'hq1).toNat : Int) == 80) = false := beq_eq_false_iff_ne.2 (by omega)
                have p101 : (((s[at_ + n - 1]'hq1).toNat : Int) == 101) = false := beq_eq_false_iff_ne.2 (by omega)
                have p69 : (((s[at_ + n - 1]'hq1).toNat : Int) == 69) = false := beq_eq_false_iff_ne.2 (by omega)
                have HN := Lib.hid (HZ.out (by rw [hin]; simp [kp.1, kp.2.1, kp.2.2.1, kp.2.2.2]))
                clear hin kp k46 k4
                go_wp2_with fail
                refine (HL.out _).mono ?_
                rintro r w1 ⟨rfl, rfl⟩
                go_wp2_with fail
                refine (HD.out _).mono ?_
                rintro r w1 ⟨rfl, rfl⟩
                go_wp2_with fail
                go_ret
                exact ⟨by rw [HN.out, Nat.add_sub_cancel_left]; rfl, rfl⟩
          have hin : inNum (s[at_ + n - 1]'hq1).toNat (s[at_ + n]'hq).toNat true = (decide ((s[at_ + n]'hq).toNat < 128) && (letR ((((s[at_ + n]'hq).toNat : Nat)) : Int) || digR ((((s[at_ + n]'hq).toNat : Nat)) : Int))) := by unfold inNum; rw [if_neg k46, if_neg k4]
          have c46 : (((s[at_ + n]'hq).toNat : Int) == 46) = false := beq_eq_false_iff_ne.2 (by omega)
          have c43 : (((s[at_ + n]'hq).toNat : Int) == 43) = false := beq_eq_false_iff_ne.2 (by omega)
          have c45 : (((s[at_ + n]'hq).toNat : Int) == 45) = false := beq_eq_false_iff_ne.2 (by omega)
          by_cases k128 : (s[at_ + n]'hq).toNat < 128
          · have h128 : (((s[at_ + n]'hq).toNat : Nat) : Int) < 128 := by omega
            rw [decide_eq_true k128, Bool.true_and] at hin
            cases hl : letR ((((s[at_ + n]'hq).toNat : Nat)) : Int) with
            | true =>
              have HN := Lib.hid (HY.out (by rw [hin, hl]; rfl))
              rw [hl] at HL
              clear hl hin k46 k4 k128
              go_wp2_with fail
              refine (HL.out _).mono ?_
              rintro r w1 ⟨rfl, rfl⟩
              go_wp2_with fail
              go_roundg (gk - 1)
              case measure => omega
              case rel => exact ⟨n + 1, by omega, by go_num, .inr ⟨by omega, by exact HN.out⟩, rfl⟩
            | false =>
              cases hdd : digR ((((s[at_ + n]'hq).toNat : Nat)) : Int) with
              | true =>
                have HN := Lib.hid (HY.out (by rw [hin, hl, hdd]; rfl))
                rw [hl] at HL
                rw [hdd] at HD
                clear hl hdd hin k46 k4 k128
                go_wp2_with fail
                refine (HL.out _).mono ?_
                rintro r w1 ⟨rfl, rfl⟩
                go_wp2_with fail
                refine (HD.out _).mono ?_
                rintro r w1 ⟨rfl, rfl⟩
                go_wp2_with fail
                go_roundg (gk - 1)
                case measure => omega
                case rel => exact ⟨n + 1, by omega, by go_num, .inr ⟨by omega, by exact HN.out⟩, rfl⟩
              | false =>
                have HN := Lib.hid (HZ.out (by rw [hin, hl, hdd]; decide))
                rw [hl] at HL
                rw [hdd] at HD
                clear hl hdd hin k46 k4 k128
                go_wp2_with fail
                refine (HL.out _).mono ?_
                rintro r w1 ⟨rfl, rfl⟩
                go_wp2_with fail
                refine (HD.out _).mono ?_
                rintro r w1 ⟨rfl, rfl⟩
                go_wp2_with fail
                go_ret
                exact ⟨by rw [HN.out, Nat.add_sub_cancel_left]; rfl, rfl⟩
          · have h128 : ¬ (((s[at_ + n]'hq).toNat : Nat) : Int) < 128 := by omega
            have HN := Lib.hid (HZ.out (by rw [hin, decide_eq_false k128]; simp))
            clear hin k46 k4 k128
            go_wp2_with fail
            go_ret
            exact ⟨by rw [HN.out, Nat.add_sub_cancel_left]; rfl, rfl⟩
    | false =>
      have hx2 : hex = false := hx
      clear hx
      subst hx2
      go_wp2_with fail
      refine (HB1.out _).mono ?_
      rintro r w1 ⟨rfl, rfl⟩
      go_wp2_with fail
      refine (HB2.out _).mono ?_
      rintro r w1 ⟨rfl, rfl⟩
      go_wp2_with fail
      go_loopg [6] (s.size - at_) (fun g nv wr => ∃ n : Nat, at_ + n + g = s.size ∧ nv = .int .i64 n ∧ (n = 0 ∨ (1 ≤ n ∧ numE s false (at_ + 1) = numE s false (at_ + n))) ∧ w = wr)
      case atStart => exact ⟨0, by omega, rfl, .inl rfl, rfl⟩
      case round =>
        obtain ⟨n, hng, rfl, hor, rfl⟩ := hrel
        have hcast : ((at_ : Int) + (n : Int)).toNat = at_ + n := by omega
        by_cases hq : at_ + n < s.size
        case neg =>
          have hqI : ¬ (at_ : Int) + (n : Int) < (s.size : Int) := by omega
          have HN : Hid (numE s false (at_ + 1) = at_ + n) := Lib.hid (by
            rcases hor with h | ⟨h1, h2⟩
            · omega
            · rw [h2, numE, if_neg hq])
          clear hor
          go_wp2_with fail
          go_ret
          exact ⟨by rw [HN.out, Nat.add_sub_cancel_left]; rfl, rfl⟩
        have hqI : (at_ : Int) + (n : Int) < (s.size : Int) := by omega
        have hcb := byt_at2 s (at_ + n) hq
        have h8 : (s[at_ + n]'hq).toNat ≤ 255 := by have := (s[at_ + n]'hq).toNat_lt; omega
        have HL := Lib.hid (fun w1 => refLetter_any (((s[at_ + n]'hq).toNat : Nat) : Int) w1)
        have HD := Lib.hid (fun w1 => refDigit_any (((s[at_ + n]'hq).toNat : Nat) : Int) w1)
        rcases hor with rfl | ⟨hn1, hE⟩
        · have hcb0 := byt_at2 s at_ ha
          have h80 : (s[at_]'ha).toNat ≤ 255 := by have := (s[at_]'ha).toNat_lt; omega
          have HL := Lib.hid (fun w1 => refLetter_any (((s[at_]'ha).toNat : Nat) : Int) w1)
          have HD := Lib.hid (fun w1 => refDigit_any (((s[at_]'ha).toNat : Nat) : Int) w1)
          clear hcb h8
          rcases Hd.out with h46 | hdg
          · have hc : (s[at_]'ha).toNat = 46 := by rw [hcb0]; exact h46
            clear hcb0
            have c46 : (((s[at_]'ha).toNat : Int) == 46) = true := beq_iff_eq.2 (by omega)
            have c43 : (((s[at_]'ha).toNat : Int) == 43) = false := beq_eq_false_iff_ne.2 (by omega)
            have c45 : (((s[at_]'ha).toNat : Int) == 45) = false := beq_eq_false_iff_ne.2 (by omega)
            clear hc h46
            go_wp2_with fail
            go_roundg (gk - 1)
            case measure => omega
            case rel => exact ⟨0 + 1, by omega, by go_num, .inr ⟨by omega, rfl⟩, rfl⟩
          · have hc : 48 ≤ (s[at_]'ha).toNat ∧ (s[at_]'ha).toNat ≤ 57 := by rw [hcb0]; exact hdg
            have hl : letR ((((s[at_]'ha).toNat : Nat)) : Int) = false := decide_eq_false (by omega)
            have hdd : digR ((((s[at_]'ha).toNat : Nat)) : Int) = true := decide_eq_true (by omega)
            have h128 : (((s[at_]'ha).toNat : Nat) : Int) < 128 := by omega
            rw [hl] at HL
            rw [hdd] at HD
            clear hl hdd hcb0
            have c46 : (((s[at_]'ha).toNat : Int) == 46) = false := beq_eq_false_iff_ne.2 (by omega)
            have c43 : (((s[at_]'ha).toNat : Int) == 43) = false := beq_eq_false_iff_ne.2 (by omega)
            have c45 : (((s[at_]'ha).toNat : Int) == 45) = false := beq_eq_false_iff_ne.2 (by omega)
            clear hc hdg
            go_wp2_with fail
            refine (HL.out _).mono ?_
            rintro r w1 ⟨rfl, rfl⟩
            go_wp2_with fail
            refine (HD.out _).mono ?_
            rintro r w1 ⟨rfl, rfl⟩
            go_wp2_with fail
            go_roundg (gk - 1)
            case measure => omega
            case rel => exact ⟨0 + 1, by omega, by go_num, .inr ⟨by omega, rfl⟩, rfl⟩
        · have hq1 : at_ + n - 1 < s.size := by omega
          have hpb := byt_at2 s (at_ + n - 1) hq1
          have hp8 : (s[at_ + n - 1]'hq1).toNat ≤ 255 := by have := (s[at_ + n - 1]'hq1).toNat_lt; omega
          have htn1 : ((at_ : Int) + (n : Int) - 1).toNat = at_ + n - 1 := by omega
          have hn0 : (0 : Int) < (n : Int) := by omega
          have HU := Lib.hid (show numE s false (at_ + n) = if inNum (s[at_ + n - 1]'hq1).toNat (s[at_ + n]'hq).toNat false = true then numE s false (at_ + n + 1) else at_ + n by rw [numE, if_pos hq, hpb, hcb])
          have HY := Lib.hid (show inNum (s[at_ + n - 1]'hq1).toNat (s[at_ + n]'hq).toNat false = true → numE s false (at_ + 1) = numE s false (at_ + (n + 1)) from fun h => by rw [hE, HU.out, if_pos h]; rfl)
          have HZ := Lib.hid (show ¬ inNum (s[at_ + n - 1]'hq1).toNat (s[at_ + n]'hq).toNat false = true → numE s false (at_ + 1) = at_ + n from fun h => by rw [hE, HU.out, if_neg h])
          clear hE hcb hpb
          by_cases k46 : (s[at_ + n]'hq).toNat = 46
          · have HN := Lib.hid (HY.out (by unfold inNum; rw [if_pos k46]))
            have c46 : (((s[at_ + n]'hq).toNat : Int) == 46) = true := beq_iff_eq.2 (by omega)
            have c43 : (((s[at_ + n]'hq).toNat : Int) == 43) = false := beq_eq_false_iff_ne.2 (by omega)
            have c45 : (((s[at_ + n]'hq).toNat : Int) == 45) = false := beq_eq_false_iff_ne.2 (by omega)
            clear k46
            go_wp2_with fail
            go_roundg (gk - 1)
            case measure => omega
            case rel => exact ⟨n + 1, by omega, by go_num, .inr ⟨by omega, by exact HN.out⟩, rfl⟩
          by_cases k4 : (s[at_ + n]'hq).toNat = 43 ∨ (s[at_ + n]'hq).toNat = 45
          · have hl : letR ((((s[at_ + n]'hq).toNat : Nat)) : Int) = false := decide_eq_false (by omega)
            have hdd : digR ((((s[at_ + n]'hq).toNat : Nat)) : Int) = false := decide_eq_false (by omega)
            have h128 : (((s[at_ + n]'hq).toNat : Nat) : Int) < 128 := by omega
            rw [hl] at HL
            rw [hdd] at HD
            clear hl hdd
            have hin : inNum (s[at_ + n - 1]'hq1).toNat (s[at_ + n]'hq).toNat false = (decide ((s[at_ + n - 1]'hq1).toNat = 112 ∨ (s[at_ + n - 1]'hq1).toNat = 80) || (!false && decide ((s[at_ + n - 1]'hq1).toNat = 101 ∨ (s[at_ + n - 1]'hq1).toNat = 69))) := by unfold inNum; rw [if_neg k46, if_pos k4]
            rcases k4 with k4 | k4
            · have c46 : (((s[at_ + n]'hq).toNat : Int) == 46) = false := beq_eq_false_iff_ne.2 (by omega)
              have c43 : (((s[at_ + n]'hq).toNat : Int) == 43) = true := beq_iff_eq.2 (by omega)
              have c45 : (((s[at_ + n]'hq).toNat : Int) == 45) = false := beq_eq_false_iff_ne.2 (by omega)
              rcases (by omega : (s[at_ + n - 1]'hq1).toNat = 112 ∨ (s[at_ + n - 1]'hq1).toNat = 80 ∨ (s[at_ + n - 1]'hq1).toNat = 101 ∨ (s[at_ + n - 1]'hq1).toNat = 69 ∨ ((s[at_ + n - 1]'hq1).toNat ≠ 112 ∧ (s[at_ + n - 1]'hq1).toNat ≠ 80 ∧ (s[at_ + n - 1]'hq1).toNat ≠ 101 ∧ (s[at_ + n - 1]'hq1).toNat ≠ 69)) with kp | kp | kp | kp | kp
              · have p112 : (((s[at_ + n - 1]'hq1).toNat : Int) == 112) = true := beq_iff_eq.2 (by omega)
                have p80 : (((s[at_ + n - 1]'hq1).toNat : Int) == 80) = false := beq_eq_false_iff_ne.2 (by omega)
                have p101 : (((s[at_ + n - 1]'hq1).toNat : Int) == 101) = false := beq_eq_false_iff_ne.2 (by omega)
                have p69 : (((s[at_ + n - 1]'hq1).toNat : Int) == 69) = false := beq_eq_false_iff_ne.2 (by omega)
                have HN := Lib.hid (HY.out (by rw [hin]; simp [kp]))
                clear hin kp k46 k4
                go_wp2_with fail
                refine (HL.out _).mono ?_
                rintro r w1 ⟨rfl, rfl⟩
                go_wp2_with fail
                refine (HD.out _).mono ?_
                rintro r w1 ⟨rfl, rfl⟩
                go_wp2_with fail
                go_roundg (gk - 1)
                case measure => omega
                case rel => exact ⟨n + 1, by omega, by go_num, .inr ⟨by omega, by exact HN.out⟩, rfl⟩
              · have p112 : (((s[at_ + n - 1]'hq1).toNat : Int) == 112) = false := beq_eq_false_iff_ne.2 (by omega)
                have p80 : (((s[at_ + n - 1]'hq1).toNat : Int) == 80) = true := beq_iff_eq.2 (by omega)
                have p101 : (((s[at_ + n - 1]'hq1).toNat : Int) == 101) = false := beq_eq_false_iff_ne.2 (by omega)
                have p69 : (((s[at_ + n - 1]'hq1).toNat : Int) == 69) = false := beq_eq_false_iff_ne.2 (by omega)
                have HN := Lib.hid (HY.out (by rw [hin]; simp [kp]))
                clear hin kp k46 k4
                go_wp2_with fail
                refine (HL.out _).mono ?_
                rintro r w1 ⟨rfl, rfl⟩
                go_wp2_with fail
                refine (HD.out _).mono ?_
                rintro r w1 ⟨rfl, rfl⟩
                go_wp2_with fail
                go_roundg (gk - 1)
                case measure => omega
                case rel => exact ⟨n + 1, by omega, by go_num, .inr ⟨by omega, by exact HN.out⟩, rfl⟩
              · have p112 : (((s[at_ + n - 1]'hq1).toNat : Int) == 112) = false := beq_eq_false_iff_ne.2 (by omega)
                have p80 : (((s[at_ + n - 1]'hq1).toNat : Int) == 80) = false := beq_eq_false_iff_ne.2 (by omega)
                have p101 : (((s[at_ + n - 1]'hq1).toNat : Int) == 101) = true := beq_iff_eq.2 (by omega)
                have p69 : (((s[at_ + n - 1]'hq1).toNat : Int) == 69) = false := beq_eq_false_iff_ne.2 (by omega)
                have HN := Lib.hid (HY.out (by rw [hin]; simp [kp]))
                clear hin kp k46 k4
                go_wp2_with fail
                refine (HL.out _).mono ?_
                rintro r w1 ⟨rfl, rfl⟩
                go_wp2_with fail
                refine (HD.out _).mono ?_
                rintro r w1 ⟨rfl, rfl⟩
                go_wp2_with fail
                go_roundg (gk - 1)
                case measure => omega
                case rel => exact ⟨n + 1, by omega, by go_num, .inr ⟨by omega, by exact HN.out⟩, rfl⟩
              · have p112 : (((s[at_ + n - 1]'hq1).toNat : Int) == 112) = false := beq_eq_false_iff_ne.2 (by omega)
                have p80 : (((s[at_ + n - 1]'hq1).toNat : Int) == 80) = false := beq_eq_false_iff_ne.2 (by omega)
                have p101 : (((s[at_ + n - 1]'hq1).toNat : Int) == 101) = false := beq_eq_false_iff_ne.2 (by omega)
                have p69 : (((s[at_ + n - 1]'hq1).toNat : Int) == 69) = true := beq_iff_eq.2 (by omega)
                have HN := Lib.hid (HY.out (by rw [hin]; simp [kp]))
                clear hin kp k46 k4
                go_wp2_with fail
                refine (HL.out _).mono ?_
                rintro r w1 ⟨rfl, rfl⟩
                go_wp2_with fail
                refine (HD.out _).mono ?_
                rintro r w1 ⟨rfl, rfl⟩
                go_wp2_with fail
                go_roundg (gk - 1)
                case measure => omega
                case rel => exact ⟨n + 1, by omega, by go_num, .inr ⟨by omega, by exact HN.out⟩, rfl⟩
              · have p112 : (((s[at_ + n - 1]'hq1).toNat : Int) == 112) = false := beq_eq_false_iff_ne.2 (by omega)
                have p80 : (((s[at_ + n - 1]'hq1).toNat : Int) == 80) = false := beq_eq_false_iff_ne.2 (by omega)
                have p101 : (((s[at_ + n - 1]'hq1).toNat : Int) == 101) = false := beq_eq_false_iff_ne.2 (by omega)
                have p69 : (((s[at_ + n - 1]'hq1).toNat : Int) == 69) = false := beq_eq_false_iff_ne.2 (by omega)
                have HN := Lib.hid (HZ.out (by rw [hin]; simp [kp.1, kp.2.1, kp.2.2.1, kp.2.2.2]))
                clear hin kp k46 k4
                go_wp2_with fail
                refine (HL.out _).mono ?_
                rintro r w1 ⟨rfl, rfl⟩
                go_wp2_with fail
                refine (HD.out _).mono ?_
                rintro r w1 ⟨rfl, rfl⟩
                go_wp2_with fail
                go_ret
                exact ⟨by rw [HN.out, Nat.add_sub_cancel_left]; rfl, rfl⟩
            · have c46 : (((s[at_ + n]'hq).toNat : Int) == 46) = false := beq_eq_false_iff_ne.2 (by omega)
              have c43 : (((s[at_ + n]'hq).toNat : Int) == 43) = false := beq_eq_false_iff_ne.2 (by omega)
              have c45 : (((s[at_ + n]'hq).toNat : Int) == 45) = true := beq_iff_eq.2 (by omega)
              rcases (by omega : (s[at_ + n - 1]'hq1).toNat = 112 ∨ (s[at_ + n - 1]'hq1).toNat = 80 ∨ (s[at_ + n - 1]'hq1).toNat = 101 ∨ (s[at_ + n - 1]'hq1).toNat = 69 ∨ ((s[at_ + n - 1]'hq1).toNat ≠ 112 ∧ (s[at_ + n - 1]'hq1).toNat ≠ 80 ∧ (s[at_ + n - 1]'hq1).toNat ≠ 101 ∧ (s[at_ + n - 1]'hq1).toNat ≠ 69)) with kp | kp | kp | kp | kp
              · have p112 : (((s[at_ + n - 1]'hq1).toNat : Int) == 112) = true := beq_iff_eq.2 (by omega)
                have p80 : (((s[at_ + n - 1]'hq1).toNat : Int) == 80) = false := beq_eq_false_iff_ne.2 (by omega)
                have p101 : (((s[at_ + n - 1]'hq1).toNat : Int) == 101) = false := beq_eq_false_iff_ne.2 (by omega)
                have p69 : (((s[at_ + n - 1]'hq1).toNat : Int) == 69) = false := beq_eq_false_iff_ne.2 (by omega)
                have HN := Lib.hid (HY.out (by rw [hin]; simp [kp]))
                clear hin kp k46 k4
                go_wp2_with fail
                refine (HL.out _).mono ?_
                rintro r w1 ⟨rfl, rfl⟩
                go_wp2_with fail
                refine (HD.out _).mono ?_
                rintro r w1 ⟨rfl, rfl⟩
                go_wp2_with fail
                go_roundg (gk - 1)
                case measure => omega
                case rel => exact ⟨n + 1, by omega, by go_num, .inr ⟨by omega, by exact HN.out⟩, rfl⟩
              · have p112 : (((s[at_ + n - 1]'hq1).toNat : Int) == 112) = false := beq_eq_false_iff_ne.2 (by omega)
                have p80 : (((s[at_ + n - 1]'hq1).toNat : Int) == 80) = true := beq_iff_eq.2 (by omega)
                have p101 : (((s[at_ + n - 1]'hq1).toNat : Int) == 101) = false := beq_eq_false_iff_ne.2 (by omega)
                have p69 : (((s[at_ + n - 1]'hq1).toNat : Int) == 69) = false := beq_eq_false_iff_ne.2 (by omega)
                have HN := Lib.hid (HY.out (by rw [hin]; simp [kp]))
                clear hin kp k46 k4
                go_wp2_with fail
                refine (HL.out _).mono ?_
                rintro r w1 ⟨rfl, rfl⟩
                go_wp2_with fail
                refine (HD.out _).mono ?_
                rintro r w1 ⟨rfl, rfl⟩
                go_wp2_with fail
                go_roundg (gk - 1)
                case measure => omega
                case rel => exact ⟨n + 1, by omega, by go_num, .inr ⟨by omega, by exact HN.out⟩, rfl⟩
              · have p112 : (((s[at_ + n - 1]'hq1).toNat : Int) == 112) = false := beq_eq_false_iff_ne.2 (by omega)
                have p80 : (((s[at_ + n - 1]'hq1).toNat : Int) == 80) = false := beq_eq_false_iff_ne.2 (by omega)
                have p101 : (((s[at_ + n - 1]'hq1).toNat : Int) == 101) = true := beq_iff_eq.2 (by omega)
                have p69 : (((s[at_ + n - 1]'hq1).toNat : Int) == 69) = false := beq_eq_false_iff_ne.2 (by omega)
                have HN := Lib.hid (HY.out (by rw [hin]; simp [kp]))
                clear hin kp k46 k4
                go_wp2_with fail
                refine (HL.out _).mono ?_
                rintro r w1 ⟨rfl, rfl⟩
                go_wp2_with fail
                refine (HD.out _).mono ?_
                rintro r w1 ⟨rfl, rfl⟩
                go_wp2_with fail
                go_roundg (gk - 1)
                case measure => omega
                case rel => exact ⟨n + 1, by omega, by go_num, .inr ⟨by omega, by exact HN.out⟩, rfl⟩
              · have p112 : (((s[at_ + n - 1]'hq1).toNat : Int) == 112) = false := beq_eq_false_iff_ne.2 (by omega)
                have p80 : (((s[at_ + n - 1]'hq1).toNat : Int) == 80) = false := beq_eq_false_iff_ne.2 (by omega)
                have p101 : (((s[at_ + n - 1]'hq1).toNat : Int) == 101) = false := beq_eq_false_iff_ne.2 (by omega)
                have p69 : (((s[at_ + n - 1]'hq1).toNat : Int) == 69) = true := beq_iff_eq.2 (by omega)
                have HN := Lib.hid (HY.out (by rw [hin]; simp [kp]))
                clear hin kp k46 k4
                go_wp2_with fail
                refine (HL.out _).mono ?_
                rintro r w1 ⟨rfl, rfl⟩
                go_wp2_with fail
                refine (HD.out _).mono ?_
                rintro r w1 ⟨rfl, rfl⟩
                go_wp2_with fail
                go_roundg (gk - 1)
                case measure => omega
                case rel => exact ⟨n + 1, by omega, by go_num, .inr ⟨by omega, by exact HN.out⟩, rfl⟩
              · have p112 : (((s[at_ + n - 1]'hq1).toNat : Int) == 112) = false := beq_eq_false_iff_ne.2 (by omega)
                have p80 : (((s[at_ + n - 1]'hq1).toNat : Int) == 80) = false := beq_eq_false_iff_ne.2 (by omega)
                have p101 : (((s[at_ + n - 1]'hq1).toNat : Int) == 101) = false := beq_eq_false_iff_ne.2 (by omega)
                have p69 : (((s[at_ + n - 1]'hq1).toNat : Int) == 69) = false := beq_eq_false_iff_ne.2 (by omega)
                have HN := Lib.hid (HZ.out (by rw [hin]; simp [kp.1, kp.2.1, kp.2.2.1, kp.2.2.2]))
                clear hin kp k46 k4
                go_wp2_with fail
                refine (HL.out _).mono ?_
                rintro r w1 ⟨rfl, rfl⟩
                go_wp2_with fail
                refine (HD.out _).mono ?_
                rintro r w1 ⟨rfl, rfl⟩
                go_wp2_with fail
                go_ret
                exact ⟨by rw [HN.out, Nat.add_sub_cancel_left]; rfl, rfl⟩
          have hin : inNum (s[at_ + n - 1]'hq1).toNat (s[at_ + n]'hq).toNat false = (decide ((s[at_ + n]'hq).toNat < 128) && (letR ((((s[at_ + n]'hq).toNat : Nat)) : Int) || digR ((((s[at_ + n]'hq).toNat : Nat)) : Int))) := by unfold inNum; rw [if_neg k46, if_neg k4]
          have c46 : (((s[at_ + n]'hq).toNat : Int) == 46) = false := beq_eq_false_iff_ne.2 (by omega)
          have c43 : (((s[at_ + n]'hq).toNat : Int) == 43) = false := beq_eq_false_iff_ne.2 (by omega)
          have c45 : (((s[at_ + n]'hq).toNat : Int) == 45) = false := beq_eq_false_iff_ne.2 (by omega)
          by_cases k128 : (s[at_ + n]'hq).toNat < 128
          · have h128 : (((s[at_ + n]'hq).toNat : Nat) : Int) < 128 := by omega
            rw [decide_eq_true k128, Bool.true_and] at hin
            cases hl : letR ((((s[at_ + n]'hq).toNat : Nat)) : Int) with
            | true =>
              have HN := Lib.hid (HY.out (by rw [hin, hl]; rfl))
              rw [hl] at HL
              clear hl hin k46 k4 k128
              go_wp2_with fail
              refine (HL.out _).mono ?_
              rintro r w1 ⟨rfl, rfl⟩
              go_wp2_with fail
              go_roundg (gk - 1)
              case measure => omega
              case rel => exact ⟨n + 1, by omega, by go_num, .inr ⟨by omega, by exact HN.out⟩, rfl⟩
            | false =>
              cases hdd : digR ((((s[at_ + n]'hq).toNat : Nat)) : Int) with
              | true =>
                have HN := Lib.hid (HY.out (by rw [hin, hl, hdd]; rfl))
                rw [hl] at HL
                rw [hdd] at HD
                clear hl hdd hin k46 k4 k128
                go_wp2_with fail
                refine (HL.out _).mono ?_
                rintro r w1 ⟨rfl, rfl⟩
                go_wp2_with fail
                refine (HD.out _).mono ?_
                rintro r w1 ⟨rfl, rfl⟩
                go_wp2_with fail
                go_roundg (gk - 1)
                case measure => omega
                case rel => exact ⟨n + 1, by omega, by go_num, .inr ⟨by omega, by exact HN.out⟩, rfl⟩
              | false =>
                have HN := Lib.hid (HZ.out (by rw [hin, hl, hdd]; decide))
                rw [hl] at HL
                rw [hdd] at HD
                clear hl hdd hin k46 k4 k128
                go_wp2_with fail
                refine (HL.out _).mono ?_
                rintro r w1 ⟨rfl, rfl⟩
                go_wp2_with fail
                refine (HD.out _).mono ?_
                rintro r w1 ⟨rfl, rfl⟩
                go_wp2_with fail
                go_ret
                exact ⟨by rw [HN.out, Nat.add_sub_cancel_left]; rfl, rfl⟩
          · have h128 : ¬ (((s[at_ + n]'hq).toNat : Nat) : Int) < 128 := by omega
            have HN := Lib.hid (HZ.out (by rw [hin, decide_eq_false k128]; simp))
            clear hin k46 k4 k128
            go_wp2_with fail
            go_ret
            exact ⟨by rw [HN.out, Nat.add_sub_cancel_left]; rfl, rfl⟩
end Go.Proofs.YtejogobhnbjpdaaGreatDoor
namespace Go.Proofs.YtejogobhnbjpdaaGreatDoor
set_option linter.unusedVariables false
set_option linter.unusedSimpArgs false
open Go.ChangeShapes Go.WideShapes Go.ChangeAt Go.RowKit

def thV (k : Int) (n a : Nat) : Value := .agg #[.int .i64 k, .int .i64 n, .int .i64 a]
def lineV (q : Nat) : Rs → Value | .inl f => thV 7 0 f | .inr e => thV (-3) (e - q) 0
theorem set3 (w : World) (g : Nat) (a b c x y z : Value) (t : TypeId) (fr : Nat × Nat) (hg : w.heap[g]? = some (.cells #[a, b, c] t fr)) :
    ((w.setCell ⟨g, 0, none⟩ x).setCell ⟨g, 1, none⟩ y).setCell ⟨g, 2, none⟩ z = w.setRow g #[x, y, z] := by
  rw [setCell_eq_setRow w g 0 _ t fr x hg, setCell_eq_setRow _ g 1 _ t fr y (setRow_heap _ _ _ _ _ _ hg), setRow_setRow,
    setCell_eq_setRow _ g 2 _ t fr z (setRow_heap _ _ _ _ _ _ hg), setRow_setRow]
  rfl
theorem below_set3 {B g : Nat} {w0 w : World} (hb : Below B w0 w) (hg : w.heap[g]? = some (.cells #[.int .i64 0, .int .i64 0, .int .i64 0] 67 (0, 0))) (h : B ≤ g) (x y z : Value) : Below B w0 (w.setRow g #[x, y, z]) := by
  rw [← set3 w g _ _ _ x y z _ _ hg]
  exact ((Below.setCell hb (p := ⟨g, 0, none⟩) h _).setCell (p := ⟨g, 1, none⟩) h _).setCell (p := ⟨g, 2, none⟩) h _
theorem size49 : (Tryz.prog.info? 67).map (·.size) = some 3 := by as_aux_lemma => kernel_rfl
theorem ret39 {R : Ending → World → Prop} {a : Act} (w : World) (g : Nat) (x y z : Value) (hg : w.heap[g]? = some (.cells #[.int .i64 0, .int .i64 0, .int .i64 0] 67 (0, 0)))
    (hp : a.tmps.getD 4 undef = .pointer (some ⟨g, 0, none⟩)) (hd : a.defers = []) (hR : R (.returned (.agg #[x, y, z])) (w.setRow g #[x, y, z])) :
    bodyPost Tryz.prog Tryz.f52 R .ret a (((w.setCell ⟨g, 0, none⟩ x).setCell ⟨g, 1, none⟩ y).setCell ⟨g, 2, none⟩ z) := by
  rw [set3 w g _ _ _ x y z _ _ hg]
  exact bodyPost_ret (results_cell_row (fr := (0, 0)) rfl _ _ g 67 _ _ hp (setRow_heap _ _ _ _ _ _ hg) Tryz.underlying67 rfl size49) hd hR
theorem byt_at3 (s : ByteArray) (j : Nat) (h : j < s.size) : (s[j]'h).toNat = byt s j := by unfold byt; rw [get_is s j h]
set_option maxRecDepth 100000 in
set_option maxHeartbeats 1000000 in
theorem refLine_any (s : ByteArray) (at_ : Nat) (w : World) (hs : s.size ≤ 1048576) (ha : at_ ≤ s.size) (hp : pre s at_ [47, 47] = true) :
    Calls Tryz.prog 52 #[.string s, .int .i64 at_] w fun e w' => e = .returned (lineV at_ (lineR s at_)) ∧ Below w.heap.size w w' := by
  have h2 := (pre2 s at_ 47 47 ha).1 hp
  have hq1 : at_ + 1 < s.size := by omega
  have hq1I : (at_ : Int) + 1 < (s.size : Int) := by omega
  have htn : ((at_ : Int) + 1).toNat = at_ + 1 := by omega
  have hb1 := byt_at3 s (at_ + 1) hq1
  have h47 : (((s[at_ + 1]'hq1).toNat : Int) == 47) = true := beq_iff_eq.2 (by rw [hb1]; have h := h2.2.2; have e : (47 : UInt8).toNat = 47 := rfl; omega)
  have hnew := heap_alloc_new w (.cells #[.int .i64 0, .int .i64 0, .int .i64 0] 67)
  have hBa := (Below.refl w.heap.size w).alloc (Nat.le_refl _) (.cells #[.int .i64 0, .int .i64 0, .int .i64 0] 67)
  have Hnew := Lib.hid hnew
  have HBa := Lib.hid hBa
  clear hnew hBa hb1 h2 hp
  go_enter Tryz.func52, Tryz.ntmps52
  go_wp2_with fail
  generalize w.alloc (.cells #[.int .i64 0, .int .i64 0, .int .i64 0] 67) = wa at *
  have Hlt := Lib.hid (lt_of_block Hnew.out)
  go_loopg [6, 7] (s.size - at_) (fun g fv iv wr => ∃ q : Nat, at_ ≤ q ∧ q + g = s.size ∧ fv = .bool false ∧ iv = .int .i64 q ∧ lineR s at_ = lineR s q ∧ Below wa.heap.size wa wr)
  case atStart => exact ⟨at_, Nat.le_refl _, by omega, rfl, rfl, rfl, Below.refl _ _⟩
  case round =>
    obtain ⟨q, haq, hqg, rfl, rfl, hE, hBr⟩ := hrel
    have HR := Lib.hid (fun w1 => refRune_any s q w1 (by omega))
    have HBr := Lib.hid hBr
    have Hat := Lib.hid hE
    have hblk := (hBr.block w.heap.size Hlt.out).trans Hnew.out
    have HBk := Lib.hid hblk
    clear hBr hE hblk
    by_cases hq : q < s.size
    · have hqI : (q : Int) < (s.size : Int) := by omega
      have hbq := byt_at3 s q hq
      have hr := runeAt_range s q hq
      have hrb := rune_byte hq 10 (by omega) (by omega)
      have HE := Lib.hid (show lineR s q = if (runeAt s q).1 = 10 then .inr q else if (runeAt s q).1 < 0 then .inl q else lineR s (q + (runeAt s q).2) by rw [lineR, dif_pos hq])
      rw [rn_in hq] at HR
      by_cases h10 : byt s q = 10
      · have e10 : (((s[q]'hq).toNat : Int) == 10) = true := beq_iff_eq.2 (by rw [hbq]; omega)
        have h10' : (runeAt s q).1 = 10 := hrb.2 h10
        have HE2 := Lib.hid (show lineR s q = .inr q by rw [HE.out, if_pos h10'])
        clear h10'
        have c0 := block_cell HBk.out 0
        have c1 := block_cell HBk.out 1
        have c2 := block_cell HBk.out 2
        have f0 := block_free HBk.out 0
        have f1 := block_free HBk.out 1
        have f2 := block_free HBk.out 2
        clear hbq hr hrb h10
        go_wp2_with fail
        exact ret39 _ _ _ _ _ HBk.out rfl rfl ⟨by rw [Hat.out, HE2.out]; simp only [lineV, thV]; rw [Int.ofNat_sub haq]; rfl, below_set3 (HBa.out.trans (HBr.out.mono HBa.out.size)) HBk.out (Nat.le_refl _) _ _ _⟩
      · have e10 : (((s[q]'hq).toNat : Int) == 10) = false := beq_eq_false_iff_ne.2 (by rw [hbq]; omega)
        have h10' : ¬ (runeAt s q).1 = 10 := fun h => h10 (hrb.1 h)
        clear hbq hrb
        by_cases h0 : (runeAt s q).1 < 0
        · have HE2 := Lib.hid (show lineR s q = .inl q by rw [HE.out, if_neg h10', if_pos h0])
          clear h10' h10
          go_wp2_with fail
          refine (HR.out _).mono ?_
          rintro e w1 ⟨rfl, hB1⟩
          have HB := Lib.hid (HBr.out.trans (hB1.mono HBr.out.size))
          have hbk1 := (HB.out.block w.heap.size Hlt.out).trans Hnew.out
          have HBk1 := Lib.hid hbk1
          have c0 := block_cell hbk1 0
          have c1 := block_cell hbk1 1
          have c2 := block_cell hbk1 2
          have f0 := block_free hbk1 0
          have f1 := block_free hbk1 1
          have f2 := block_free hbk1 2
          clear hB1 hbk1
          go_wp2_with fail
          exact ret39 _ _ _ _ _ HBk1.out rfl rfl ⟨by rw [Hat.out, HE2.out]; rfl, below_set3 (HBa.out.trans (HB.out.mono HBa.out.size)) HBk1.out (Nat.le_refl _) _ _ _⟩
        · have HE2 := Lib.hid (show lineR s q = lineR s (q + (runeAt s q).2) by rw [HE.out, if_neg h10', if_neg h0])
          clear h10
          go_wp2_with fail
          refine (HR.out _).mono ?_
          rintro e w1 ⟨rfl, hB1⟩
          have HB := Lib.hid (HBr.out.trans (hB1.mono HBr.out.size))
          have e10' : ((runeAt s q).1 == 10) = false := beq_eq_false_iff_ne.2 h10'
          clear hB1
          go_wp2_with fail
          go_roundg (gk - (runeAt s q).2)
          case measure => omega
          case rel => exact ⟨q + (runeAt s q).2, by omega, by omega, by first | rfl | rw [e10'], by go_num, Hat.out.trans HE2.out, HB.out⟩
    · have HE2 := Lib.hid (show lineR s q = .inr q by rw [lineR, dif_neg hq])
      obtain rfl : q = s.size := by omega
      have c0 := block_cell HBk.out 0
      have c1 := block_cell HBk.out 1
      have c2 := block_cell HBk.out 2
      have f0 := block_free HBk.out 0
      have f1 := block_free HBk.out 1
      have f2 := block_free HBk.out 2
      go_wp2_with fail
      exact ret39 _ _ _ _ _ HBk.out rfl rfl ⟨by rw [Hat.out, HE2.out]; simp only [lineV, thV]; rw [Int.ofNat_sub haq]; rfl, below_set3 (HBa.out.trans (HBr.out.mono HBa.out.size)) HBk.out (Nat.le_refl _) _ _ _⟩
end Go.Proofs.YtejogobhnbjpdaaGreatDoor
namespace Go.Proofs.YtejogobhnbjpdaaGreatDoor
set_option linter.unusedVariables false
set_option linter.unusedSimpArgs false
open Go.ChangeShapes Go.WideShapes Go.ChangeAt Go.RowKit

def manyV (s : ByteArray) (q : Nat) : Rs → Value | .inl f => thV 7 0 f | .inr e => thV (if hasLF s q e = true then -4 else -3) (e - q) 0
set_option maxRecDepth 100000 in
set_option maxHeartbeats 4000000 in
theorem refMany_any (s : ByteArray) (at_ : Nat) (w : World) (hs : s.size ≤ 1048576) (ha : at_ ≤ s.size) (hp : pre s at_ [47, 42] = true) :
    Calls Tryz.prog 52 #[.string s, .int .i64 at_] w fun e w' => e = .returned (manyV s at_ (closedR s [42, 47] at_ (at_ + 2))) ∧ Below w.heap.size w w' := by
  have h2 := (pre2 s at_ 47 42 ha).1 hp
  have e47 : (47 : UInt8).toNat = 47 := rfl
  have e42 : (42 : UInt8).toNat = 42 := rfl
  have hq1 : at_ + 1 < s.size := by omega
  have hq1I : (at_ : Int) + 1 < (s.size : Int) := by omega
  have htn : ((at_ : Int) + 1).toNat = at_ + 1 := by omega
  have hb1 := byt_at3 s (at_ + 1) hq1
  have h47 : (((s[at_ + 1]'hq1).toNat : Int) == 47) = false := beq_eq_false_iff_ne.2 (by rw [hb1]; have h := h2.2.2; omega)
  have Hb := Lib.hid (show at_ + 2 ≤ s.size ∧ byt s at_ = 47 ∧ byt s (at_ + 1) = 42 from ⟨h2.1, by omega, by omega⟩)
  have hnew := heap_alloc_new w (.cells #[.int .i64 0, .int .i64 0, .int .i64 0] 67)
  have hBa := (Below.refl w.heap.size w).alloc (Nat.le_refl _) (.cells #[.int .i64 0, .int .i64 0, .int .i64 0] 67)
  have Hnew := Lib.hid hnew
  have HBa := Lib.hid hBa
  clear hnew hBa hb1 h2 hp e47 e42
  go_enter Tryz.func52, Tryz.ntmps52
  go_wp2_with fail
  generalize w.alloc (.cells #[.int .i64 0, .int .i64 0, .int .i64 0] 67) = wa at *
  have Hlt := Lib.hid (lt_of_block Hnew.out)
  go_loopg [6, 7] (s.size - at_) (fun g fv iv wr => ∃ q : Nat, at_ ≤ q ∧ q + g = s.size ∧ fv = .bool (hasLF s at_ q) ∧ iv = .int .i64 q ∧ ((q < at_ + 2 ∧ hasLF s at_ q = false) ∨ (at_ + 2 ≤ q ∧ closedR s [42, 47] at_ (at_ + 2) = closedR s [42, 47] at_ q)) ∧ Below wa.heap.size wa wr)
  case atStart => exact ⟨at_, Nat.le_refl _, by omega, by unfold hasLF; rw [Nat.sub_self]; rfl, rfl, .inl ⟨by omega, by unfold hasLF; rw [Nat.sub_self]; rfl⟩, Below.refl _ _⟩
  case round =>
    obtain ⟨q, haq, hqg, rfl, rfl, hE, hBr⟩ := hrel
    have HR := Lib.hid (fun w1 => refRune_any s q w1 (by omega))
    have HBr := Lib.hid hBr
    have hblk := (hBr.block w.heap.size Hlt.out).trans Hnew.out
    have HBk := Lib.hid hblk
    clear hBr hblk
    obtain ⟨b, hb⟩ : ∃ b, b = hasLF s at_ q := ⟨_, rfl⟩
    rw [← hb] at hE
    rw [← hb]
    by_cases hq : q < s.size
    · have hqI : (q : Int) < (s.size : Int) := by omega
      have hr := runeAt_range s q hq
      rw [rn_in hq] at HR
      have HL := Lib.hid (fun h0 : 0 ≤ (runeAt s q).1 => show hasLF s at_ (q + (runeAt s q).2) = (b || decide ((runeAt s q).1 = 10)) by rw [hasLF_split haq (show q ≤ q + (runeAt s q).2 by omega), ← hb, hasLF_rune hq h0])
      have Hb2 := Lib.hid hb
      clear hb
      rcases hE with ⟨hlt, rfl⟩ | ⟨hge, hE⟩
      · have hby : byt s q = 47 ∨ byt s q = 42 := by
          rcases (by omega : q = at_ ∨ q = at_ + 1) with rfl | rfl
          · exact .inl Hb.out.2.1
          · exact .inr Hb.out.2.2
        have hru := rune_low hq rfl (by omega : 0 < byt s q) (by omega)
        have h1 : (runeAt s q).1 = (byt s q : Int) := by rw [hru]
        have hk : (runeAt s q).2 = 1 := by rw [hru]
        have h0 : ¬ (runeAt s q).1 < 0 := by omega
        have e10 : ((runeAt s q).1 == 10) = false := beq_eq_false_iff_ne.2 (by omega)
        have HL2 := Lib.hid (show hasLF s at_ (q + (runeAt s q).2) = false by rw [HL.out (by omega), decide_eq_false (by omega)]; rfl)
        have hI : ¬ (at_ : Int) + 2 ≤ (q : Int) := by omega
        have Hend := Lib.hid (show (q + (runeAt s q).2 < at_ + 2 ∧ hasLF s at_ (q + (runeAt s q).2) = false) ∨ (at_ + 2 ≤ q + (runeAt s q).2 ∧ closedR s [42, 47] at_ (at_ + 2) = closedR s [42, 47] at_ (q + (runeAt s q).2)) by
          rw [hk]
          rcases (by omega : q = at_ ∨ q = at_ + 1) with e | e
          · exact .inl ⟨by omega, by have := HL2.out; rw [hk] at this; exact this⟩
          · exact .inr ⟨by omega, by rw [show q + 1 = at_ + 2 by omega]⟩)
        clear hru h1 hby
        go_wp2_with fail
        refine (HR.out _).mono ?_
        rintro e w1 ⟨rfl, hB1⟩
        have HB := Lib.hid (HBr.out.trans (hB1.mono HBr.out.size))
        clear hB1
        go_wp2_with fail
        go_roundg (gk - (runeAt s q).2)
        case measure => omega
        case rel => exact ⟨q + (runeAt s q).2, by omega, by omega, by rw [HL2.out], by go_num, Hend.out, HB.out⟩
      · have hI : (at_ : Int) + 2 ≤ (q : Int) := by omega
        have HBg := Lib.hid (fun w1 => begins_any s ⟨#[42, 47]⟩ q w1 hs (by decide) (Nat.le_of_lt hq))
        have hp1 : pre s q (⟨#[42, 47]⟩ : ByteArray).data.toList = pre s q [42, 47] := rfl
        rw [hp1] at HBg
        have HE := Lib.hid (show closedR s [42, 47] at_ q = if (runeAt s q).1 < 0 then .inl q else if pre s q [42, 47] = true then .inr (q + 2) else closedR s [42, 47] at_ (q + (runeAt s q).2) by rw [closedR, dif_pos hq]; rfl)
        have Hp := Lib.hid (fun h : pre s q [42, 47] = true => show ¬ (runeAt s q).1 < 0 ∧ hasLF s at_ (q + 2) = b ∧ q + 2 ≤ s.size by
          have h3 := (pre2 s q 42 47 (Nat.le_of_lt hq)).1 h
          have e47 : (47 : UInt8).toNat = 47 := rfl
          have e42 : (42 : UInt8).toNat = 42 := rfl
          have hru := rune_low hq rfl (by omega : 0 < byt s q) (by omega)
          have h1 : (runeAt s q).1 = (byt s q : Int) := by rw [hru]
          refine ⟨by omega, ?_, h3.1⟩
          rw [hasLF_split haq (show q ≤ q + 2 by omega), ← Hb2.out]
          have : hasLF s q (q + 2) = false := by
            apply Bool.eq_false_iff.2
            intro hx
            unfold hasLF at hx
            rw [List.any_eq_true] at hx
            obtain ⟨i, hi, hb⟩ := hx
            have := List.mem_range.1 hi
            have hb := of_decide_eq_true hb
            rcases (by omega : i = 0 ∨ i = 1) with rfl | rfl
            · rw [Nat.add_zero] at hb; omega
            · omega
          rw [this, Bool.or_false])
        have Hat := Lib.hid hE
        clear hE hp1
        generalize pre s q [42, 47] = b1 at *
        cases b1 with
        | true =>
          have hp := Hp.out rfl
          have HE2 := Lib.hid (show closedR s [42, 47] at_ q = .inr (q + 2) by rw [HE.out, if_neg hp.1, if_pos rfl])
          have HL2 := Lib.hid hp.2.1
          clear hp
          cases b with
          | true =>
            go_wp2_with fail
            refine (HBg.out _).mono ?_
            rintro e w1 ⟨rfl, rfl⟩
            have c0 := block_cell HBk.out 0
            have c1 := block_cell HBk.out 1
            have c2 := block_cell HBk.out 2
            have f0 := block_free HBk.out 0
            have f1 := block_free HBk.out 1
            have f2 := block_free HBk.out 2
            go_wp2_with fail
            exact ret39 _ _ _ _ _ HBk.out rfl rfl ⟨by rw [Hat.out, HE2.out]; simp only [manyV, thV, HL2.out, if_true]; go_num, below_set3 (HBa.out.trans (HBr.out.mono HBa.out.size)) HBk.out (Nat.le_refl _) _ _ _⟩
          | false =>
            go_wp2_with fail
            refine (HBg.out _).mono ?_
            rintro e w1 ⟨rfl, rfl⟩
            have c0 := block_cell HBk.out 0
            have c1 := block_cell HBk.out 1
            have c2 := block_cell HBk.out 2
            have f0 := block_free HBk.out 0
            have f1 := block_free HBk.out 1
            have f2 := block_free HBk.out 2
            go_wp2_with fail
            exact ret39 _ _ _ _ _ HBk.out rfl rfl ⟨by rw [Hat.out, HE2.out]; simp only [manyV, thV, HL2.out, Bool.false_eq_true, if_false]; go_num, below_set3 (HBa.out.trans (HBr.out.mono HBa.out.size)) HBk.out (Nat.le_refl _) _ _ _⟩
        | false =>
          by_cases h0 : (runeAt s q).1 < 0
          · have HE2 := Lib.hid (show closedR s [42, 47] at_ q = .inl q by rw [HE.out, if_pos h0])
            go_wp2_with fail
            refine (HBg.out _).mono ?_
            rintro e w1 ⟨rfl, rfl⟩
            go_wp2_with fail
            refine (HR.out _).mono ?_
            rintro e w1 ⟨rfl, hB1⟩
            have HB := Lib.hid (HBr.out.trans (hB1.mono HBr.out.size))
            have hbk1 := (HB.out.block w.heap.size Hlt.out).trans Hnew.out
            have HBk1 := Lib.hid hbk1
            have c0 := block_cell hbk1 0
            have c1 := block_cell hbk1 1
            have c2 := block_cell hbk1 2
            have f0 := block_free hbk1 0
            have f1 := block_free hbk1 1
            have f2 := block_free hbk1 2
            clear hB1 hbk1
            go_wp2_with fail
            exact ret39 _ _ _ _ _ HBk1.out rfl rfl ⟨by rw [Hat.out, HE2.out]; rfl, below_set3 (HBa.out.trans (HB.out.mono HBa.out.size)) HBk1.out (Nat.le_refl _) _ _ _⟩
          · have HE2 := Lib.hid (show closedR s [42, 47] at_ q = closedR s [42, 47] at_ (q + (runeAt s q).2) by rw [HE.out, if_neg h0, if_neg (by decide)])
            have HL2 := Lib.hid (HL.out (by omega))
            cases b with
            | true =>
              go_wp2_with fail
              refine (HBg.out _).mono ?_
              rintro e w1 ⟨rfl, rfl⟩
              go_wp2_with fail
              refine (HR.out _).mono ?_
              rintro e w1 ⟨rfl, hB1⟩
              have HB := Lib.hid (HBr.out.trans (hB1.mono HBr.out.size))
              clear hB1
              go_wp2_with fail
              go_roundg (gk - (runeAt s q).2)
              case measure => omega
              case rel => exact ⟨q + (runeAt s q).2, by omega, by omega, by rw [HL2.out]; rfl, by go_num, .inr ⟨by omega, Hat.out.trans HE2.out⟩, HB.out⟩
            | false =>
              go_wp2_with fail
              refine (HBg.out _).mono ?_
              rintro e w1 ⟨rfl, rfl⟩
              go_wp2_with fail
              refine (HR.out _).mono ?_
              rintro e w1 ⟨rfl, hB1⟩
              have HB := Lib.hid (HBr.out.trans (hB1.mono HBr.out.size))
              clear hB1
              go_wp2_with fail
              go_roundg (gk - (runeAt s q).2)
              case measure => omega
              case rel => exact ⟨q + (runeAt s q).2, by omega, by omega, by rw [HL2.out]; rfl, by go_num, .inr ⟨by omega, Hat.out.trans HE2.out⟩, HB.out⟩
    · obtain rfl : q = s.size := by omega
      have HE2 : Hid (closedR s [42, 47] at_ (at_ + 2) = .inl at_) := Lib.hid (by
        rcases hE with ⟨h, _⟩ | ⟨_, h⟩
        · have := Hb.out.1; omega
        · rw [h, closedR, dif_neg hq])
      clear hE hb
      have c0 := block_cell HBk.out 0
      have c1 := block_cell HBk.out 1
      have c2 := block_cell HBk.out 2
      have f0 := block_free HBk.out 0
      have f1 := block_free HBk.out 1
      have f2 := block_free HBk.out 2
      go_wp2_with fail
      exact ret39 _ _ _ _ _ HBk.out rfl rfl ⟨by rw [HE2.out]; rfl, below_set3 (HBa.out.trans (HBr.out.mono HBa.out.size)) HBk.out (Nat.le_refl _) _ _ _⟩
end Go.Proofs.YtejogobhnbjpdaaGreatDoor
