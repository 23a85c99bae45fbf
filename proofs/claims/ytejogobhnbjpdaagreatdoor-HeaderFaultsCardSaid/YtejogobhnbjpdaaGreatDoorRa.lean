/- Walks: the document's names; whether a text begins with another one. -/
import Derived.Test.YtejogobhnbjpdaaGreatDoorLd
import Derived.Test.YtejogobhnbjpdaaGreatDoorHb
namespace Go.Proofs.YtejogobhnbjpdaaGreatDoor
set_option linter.unusedVariables false
set_option linter.unusedSimpArgs false
open Go.ChangeShapes Go.WideShapes Go.ChangeAt Go.RowKit

theorem refRune_is (s : ByteArray) (i : Nat) (w : World) (hi : i < s.size) (hs : s.size ≤ 140737488351232) :
    Calls Tryz.prog 49 #[.string s, .int .i64 i] w fun e w' => e = .returned (.tuple #[.int .i64 (runeAt s i).1, .int .i64 (runeAt s i).2]) ∧ Below w.heap.size w w' := by
  have h := refRune_in s i w hi hs
  rw [ref_is s i hi] at h
  exact h
/-- The document's sign at whatever place up to the end. -/
theorem refRune_any (s : ByteArray) (i : Nat) (w : World) (hs : s.size ≤ 140737488351232) :
    Calls Tryz.prog 49 #[.string s, .int .i64 i] w fun e w' => e = .returned (.tuple #[.int .i64 (rn s i).1, .int .i64 (rn s i).2]) ∧ Below w.heap.size w w' := by
  by_cases hi : i < s.size
  · rw [rn_in hi]; exact refRune_is s i w hi hs
  · rw [rn_out hi]
    exact (refRune_out s i w (.inr (by omega))).mono (by rintro e w1 ⟨rfl, rfl⟩; exact ⟨rfl, Below.refl _ _⟩)
set_option maxRecDepth 100000 in
set_option maxHeartbeats 1000000 in
theorem begins_any (s x : ByteArray) (q : Nat) (w : World) (hs : s.size ≤ 1048576) (hx : x.size ≤ 16) (hq : q ≤ s.size) :
    Calls Tryz.prog 51 #[.string s, .int .i64 q, .string x] w fun e w' => e = .returned (.bool (pre s q x.data.toList)) ∧ w = w' := by
  have hp := pre_ext hq x.data.toList
  rw [← Lib.size_eq] at hp
  by_cases h1 : q + x.size ≤ s.size
  · have hI1 : (q : Int) ≤ (s.size : Int) - (x.size : Int) := by omega
    have hI2 : (q : Int) + (x.size : Int) ≤ (s.size : Int) := by omega
    have e : ((s.extract q (q + x.size)).toList == x.toList) = pre s q x.data.toList := by
      rw [beq_data, Bool.eq_iff_iff, decide_eq_true_eq, hp]
      exact ⟨fun h => ⟨h1, h⟩, fun h => h.2⟩
    generalize pre s q x.data.toList = b at *
    clear hp
    go_enter Tryz.func51, Tryz.ntmps51
    go_wp2_with fail
    go_ret
    exact ⟨rfl, rfl⟩
  · have hI1 : ¬ (q : Int) ≤ (s.size : Int) - (x.size : Int) := by omega
    have e : pre s q x.data.toList = false := Bool.eq_false_iff.2 (fun h => h1 (hp.1 h).1)
    rw [e]
    clear hp e
    go_enter Tryz.func51, Tryz.ntmps51
    go_wp2_with fail
    go_ret
    exact ⟨rfl, rfl⟩
set_option maxRecDepth 100000 in
set_option maxHeartbeats 1000000 in
theorem name_any (s : ByteArray) (at_ : Nat) (w : World) (hs : s.size ≤ 1048576) (ha : at_ ≤ s.size) :
    Calls Tryz.prog 54 #[.string s, .int .i64 at_] w fun e w' => e = .returned (.int .i64 ((identE s at_ - at_ : Nat))) ∧ Below w.heap.size w w' := by
  have Hge := Lib.hid (identE_ge s _ at_ (Nat.le_refl _))
  go_enter Tryz.func54, Tryz.ntmps54
  go_wp2_with fail
  go_loopg [5] (s.size - at_) (fun g nv wr => ∃ n : Nat, at_ + n + g = s.size ∧ nv = .int .i64 n ∧ identE s at_ = identE s (at_ + n) ∧ Below w.heap.size w wr)
  case atStart => exact ⟨0, by omega, rfl, rfl, Below.refl _ _⟩
  case round =>
    obtain ⟨n, hng, rfl, hE, hBr⟩ := hrel
    have hq : at_ + n ≤ s.size := by omega
    have HR := Lib.hid (fun w1 => refRune_any s (at_ + n) w1 (by omega))
    have ecast : ((at_ + n : Nat) : Int) = (at_ : Int) + (n : Int) := by omega
    rw [ecast] at HR
    have HE := Lib.hid (show identE s (at_ + n) = if at_ + n < s.size then if (letR (rn s (at_ + n)).1 || digR (rn s (at_ + n)).1) = true then identE s (at_ + n + (rn s (at_ + n)).2) else at_ + n else at_ + n by
      rw [identE]
      by_cases h : at_ + n < s.size
      · rw [dif_pos h, if_pos h, rn_in h]
      · rw [dif_neg h, if_neg h])
    have hrr : at_ + n < s.size → at_ + n + (rn s (at_ + n)).2 ≤ s.size ∧ 1 ≤ (rn s (at_ + n)).2 := fun h => by rw [rn_in h]; have := runeAt_range s _ h; omega
    have hro : ¬ at_ + n < s.size → (rn s (at_ + n)).1 = -1 := fun h => by rw [rn_out h]
    have Hat := Lib.hid hE
    have HBr := Lib.hid hBr
    clear hE hBr ecast
    obtain ⟨r, hr⟩ : ∃ r, r = (rn s (at_ + n)).1 := ⟨_, rfl⟩
    obtain ⟨k, hk⟩ : ∃ k, k = (rn s (at_ + n)).2 := ⟨_, rfl⟩
    rw [← hr, ← hk] at HR HE
    rw [← hk] at hrr
    rw [← hr] at hro
    clear hr hk
    have HL := Lib.hid (fun w1 => refLetter_any r w1)
    have HD := Lib.hid (fun w1 => refDigit_any r w1)
    by_cases h0 : r < 0
    · have HE2 : Hid (identE s at_ = at_ + n) := Lib.hid (by
        rw [Hat.out, HE.out]
        split
        · rw [if_neg (fun h => by
            rcases Bool.or_eq_true_iff.1 h with h | h
            · have := letR_pos h; omega
            · have := digR_pos h; omega)]
        · rfl)
      go_wp2_with fail
      refine (HR.out _).mono ?_
      rintro e w1 ⟨rfl, hB1⟩
      have HB := Lib.hid (HBr.out.trans (hB1.mono HBr.out.size))
      clear hB1
      go_wp2_with fail
      go_ret
      exact ⟨by rw [HE2.out, Nat.add_sub_cancel_left]; rfl, HB.out⟩
    · have hlt : at_ + n < s.size := by
        rcases Nat.lt_or_ge (at_ + n) s.size with h | h
        · exact h
        · exact absurd (hro (by omega)) (by omega)
      have hrr2 := hrr hlt
      clear hrr hro
      cases hl : letR r with
      | true =>
        have HE2 := Lib.hid (show identE s (at_ + n) = identE s (at_ + n + k) by rw [HE.out, if_pos hlt, hl]; rfl)
        rw [hl] at HL
        clear hl
        go_wp2_with fail
        refine (HR.out _).mono ?_
        rintro e w1 ⟨rfl, hB1⟩
        have HB := Lib.hid (HBr.out.trans (hB1.mono HBr.out.size))
        clear hB1
        go_wp2_with fail
        refine (HL.out _).mono ?_
        rintro e w2 ⟨rfl, rfl⟩
        go_wp2_with fail
        go_roundg (gk - k)
        case measure => omega
        case rel => exact ⟨n + k, by omega, by go_num, by rw [Hat.out, HE2.out, Nat.add_assoc], HB.out⟩
      | false =>
        rw [hl] at HL
        cases hd : digR r with
        | true =>
          have HE2 := Lib.hid (show identE s (at_ + n) = identE s (at_ + n + k) by rw [HE.out, if_pos hlt, hl, hd]; rfl)
          rw [hd] at HD
          clear hl hd
          go_wp2_with fail
          refine (HR.out _).mono ?_
          rintro e w1 ⟨rfl, hB1⟩
          have HB := Lib.hid (HBr.out.trans (hB1.mono HBr.out.size))
          clear hB1
          go_wp2_with fail
          refine (HL.out _).mono ?_
          rintro e w2 ⟨rfl, rfl⟩
          go_wp2_with fail
          refine (HD.out _).mono ?_
          rintro e w2 ⟨rfl, rfl⟩
          go_wp2_with fail
          go_roundg (gk - k)
          case measure => omega
          case rel => exact ⟨n + k, by omega, by go_num, by rw [Hat.out, HE2.out, Nat.add_assoc], HB.out⟩
        | false =>
          have HE2 : Hid (identE s at_ = at_ + n) := Lib.hid (by rw [Hat.out, HE.out, if_pos hlt, hl, hd]; rfl)
          rw [hd] at HD
          clear hl hd
          go_wp2_with fail
          refine (HR.out _).mono ?_
          rintro e w1 ⟨rfl, hB1⟩
          have HB := Lib.hid (HBr.out.trans (hB1.mono HBr.out.size))
          clear hB1
          go_wp2_with fail
          refine (HL.out _).mono ?_
          rintro e w2 ⟨rfl, rfl⟩
          go_wp2_with fail
          refine (HD.out _).mono ?_
          rintro e w2 ⟨rfl, rfl⟩
          go_wp2_with fail
          go_ret
          exact ⟨by rw [HE2.out, Nat.add_sub_cancel_left]; rfl, HB.out⟩
end Go.Proofs.YtejogobhnbjpdaaGreatDoor
