/- Walks: texts between quotes, numbers, read by the code. -/
import Derived.Test.YtejogobhnbjpdaaDoorKx
import Derived.Test.YtejogobhnbjpdaaDoorGv
namespace Go.Proofs.YtejogobhnbjpdaaDoor
set_option linter.unusedVariables false
set_option linter.unusedSimpArgs false
open Go.ChangeShapes Go.WideShapes Go.ChangeAt Go.RowKit

set_option maxRecDepth 100000 in
set_option maxHeartbeats 4000000 in
theorem quoted34_any (b : Nat) (s : ByteArray) (at_ : Nat) (w : World) (h : Tx b s at_ w) (hs : s.size ≤ 1048576) (ha : at_ + 1 ≤ s.size) (hT : Tabs w) :
    Calls Tryd.prog 72 #[.pointer (some ⟨b, 0, none⟩), .int .i32 34] w fun e w' => e = .returned (rsV (quotR s 34 at_ (at_ + 1) false)) ∧ Below w.heap.size w w' := by
  have c1 := h.c1
  have HX := Lib.hid h
  have HT := Lib.hid hT
  clear h hT
  go_enter Tryd.func72, Tryd.ntmps72
  go_wp2_with fail
  go_loopg [7, 8] (s.size - (at_ + 1)) (fun g bv iv wr => ∃ q : Nat, ∃ bh : Bool, q + g = s.size ∧ bv = .bool bh ∧ iv = .int .i64 q ∧ quotR s 34 at_ (at_ + 1) false = quotR s 34 at_ q bh ∧ Below w.heap.size w wr)
  case atStart => exact ⟨at_ + 1, false, by omega, rfl, by go_num, rfl, Below.refl _ _⟩
  case round =>
    obtain ⟨q, bh, hqg, rfl, rfl, hE, hBr⟩ := hrel
    have HR := Lib.hid (fun w1 (h1 : Below w.heap.size w w1) => rune_any s q w1 (by omega) (tabs_below HT.out h1))
    have hX := HX.out.below hBr
    have c0 := hX.c0
    have c1r := hX.c1
    have HBr := Lib.hid hBr
    clear hX hBr
    have Hat := Lib.hid hE
    clear hE
    by_cases hq : q < s.size
    · cases bh with
      | false =>
        have hn := runeAt_range s q hq
        have HE := Lib.hid (show quotR s 34 at_ q false = if (runeAt s q).1 = 10 then .inl at_ else if (runeAt s q).1 < 0 then .inl q else if (runeAt s q).1 = 34 ∧ false = false then (if (34 : Nat) = 39 ∧ q = at_ + 1 then .inl at_ else .inr (q + 1)) else quotR s 34 at_ (q + (runeAt s q).2) (decide ((runeAt s q).1 = 92) && !false) by rw [quotR, dif_pos hq]; rfl)
        rw [rn_in hq] at HR
        have Hn1 := Lib.hid (fun h : (runeAt s q).1 = 34 => rune_one (c := 34) hq (by decide) (by decide) h)
        generalize (runeAt s q).1 = r at *
        generalize (runeAt s q).2 = n at *
        obtain ⟨hn1, hn2⟩ := hn
        have hn0 : ((n : Int) == 0) = false := beq_eq_false_iff_ne.2 (by omega)
        by_cases h10 : r = 10
        · have HE2 := Lib.hid (show quotR s 34 at_ q false = .inl at_ by rw [HE.out, if_pos h10])
          subst h10
          go_wp2_with fail
          refine (HR.out _ HBr.out).mono ?_
          rintro e w1 ⟨rfl, hB1⟩
          have HB := Lib.hid (HBr.out.trans (hB1.mono HBr.out.size))
          have c1' := (HX.out.below HB.out).c1
          clear hB1
          go_wp2_with fail
          go_quiet (fail)
          go_wp2_with fail
          go_ret2
          exact ⟨by rw [Hat.out, HE2.out]; rfl, below_drewN HB.out _⟩
        · have hr10 : (r == 10) = false := beq_eq_false_iff_ne.2 h10
          by_cases h0 : r < 0
          · have HE2 := Lib.hid (show quotR s 34 at_ q false = .inl q by rw [HE.out, if_neg h10, if_pos h0])
            go_wp2_with fail
            refine (HR.out _ HBr.out).mono ?_
            rintro e w1 ⟨rfl, hB1⟩
            have HB := Lib.hid (HBr.out.trans (hB1.mono HBr.out.size))
            clear hB1
            go_wp2_with fail
            go_ret2
            exact ⟨by rw [Hat.out, HE2.out]; rfl, HB.out⟩
          · by_cases hrq : r = 34
            · have hnn : n = 1 := Hn1.out hrq
              subst hnn
              have HE2 := Lib.hid (show quotR s 34 at_ q false = .inr (q + 1) by rw [HE.out, if_neg h10, if_neg h0, if_pos ⟨hrq, rfl⟩, if_neg (fun x => absurd x.1 (by decide))])
              subst hrq
              go_wp2_with fail
              refine (HR.out _ HBr.out).mono ?_
              rintro e w1 ⟨rfl, hB1⟩
              have HB := Lib.hid (HBr.out.trans (hB1.mono HBr.out.size))
              have c1' := (HX.out.below HB.out).c1
              clear hB1
              go_wp2_with fail
              go_ret2
              exact ⟨by rw [Hat.out, HE2.out]; rfl, HB.out⟩
            · have hrqI : (r == 34) = false := beq_eq_false_iff_ne.2 hrq
              by_cases h92 : r = 92
              · have HE2 := Lib.hid (show quotR s 34 at_ q false = quotR s 34 at_ (q + n) true by rw [HE.out, if_neg h10, if_neg h0, if_neg (fun x => hrq x.1)]; simp [h92])
                subst h92
                go_wp2_with fail
                refine (HR.out _ HBr.out).mono ?_
                rintro e w1 ⟨rfl, hB1⟩
                have HB := Lib.hid (HBr.out.trans (hB1.mono HBr.out.size))
                have c1' := (HX.out.below HB.out).c1
                clear hB1
                go_wp2_with fail
                go_roundg (gk - n)
                case measure => omega
                case rel => exact ⟨q + n, true, by omega, rfl, by go_num, by rw [Hat.out, HE2.out], HB.out⟩
              · have h92I : (r == 92) = false := beq_eq_false_iff_ne.2 h92
                have HE2 := Lib.hid (show quotR s 34 at_ q false = quotR s 34 at_ (q + n) false by rw [HE.out, if_neg h10, if_neg h0, if_neg (fun x => hrq x.1)]; simp [h92])
                go_wp2_with fail
                refine (HR.out _ HBr.out).mono ?_
                rintro e w1 ⟨rfl, hB1⟩
                have HB := Lib.hid (HBr.out.trans (hB1.mono HBr.out.size))
                have c1' := (HX.out.below HB.out).c1
                clear hB1
                go_wp2_with fail
                go_roundg (gk - n)
                case measure => omega
                case rel => exact ⟨q + n, false, by omega, rfl, by go_num, by rw [Hat.out, HE2.out], HB.out⟩
      | true =>
        have hn := runeAt_range s q hq
        have HE := Lib.hid (show quotR s 34 at_ q true = if (runeAt s q).1 = 10 then .inl at_ else if (runeAt s q).1 < 0 then .inl q else if (runeAt s q).1 = 34 ∧ true = false then (if (34 : Nat) = 39 ∧ q = at_ + 1 then .inl at_ else .inr (q + 1)) else quotR s 34 at_ (q + (runeAt s q).2) (decide ((runeAt s q).1 = 92) && !true) by rw [quotR, dif_pos hq]; rfl)
        rw [rn_in hq] at HR
        have Hn1 := Lib.hid (fun h : (runeAt s q).1 = 34 => rune_one (c := 34) hq (by decide) (by decide) h)
        generalize (runeAt s q).1 = r at *
        generalize (runeAt s q).2 = n at *
        obtain ⟨hn1, hn2⟩ := hn
        have hn0 : ((n : Int) == 0) = false := beq_eq_false_iff_ne.2 (by omega)
        by_cases h10 : r = 10
        · have HE2 := Lib.hid (show quotR s 34 at_ q true = .inl at_ by rw [HE.out, if_pos h10])
          subst h10
          go_wp2_with fail
          refine (HR.out _ HBr.out).mono ?_
          rintro e w1 ⟨rfl, hB1⟩
          have HB := Lib.hid (HBr.out.trans (hB1.mono HBr.out.size))
          have c1' := (HX.out.below HB.out).c1
          clear hB1
          go_wp2_with fail
          go_quiet (fail)
          go_wp2_with fail
          go_ret2
          exact ⟨by rw [Hat.out, HE2.out]; rfl, below_drewN HB.out _⟩
        · have hr10 : (r == 10) = false := beq_eq_false_iff_ne.2 h10
          by_cases h0 : r < 0
          · have HE2 := Lib.hid (show quotR s 34 at_ q true = .inl q by rw [HE.out, if_neg h10, if_pos h0])
            go_wp2_with fail
            refine (HR.out _ HBr.out).mono ?_
            rintro e w1 ⟨rfl, hB1⟩
            have HB := Lib.hid (HBr.out.trans (hB1.mono HBr.out.size))
            clear hB1
            go_wp2_with fail
            go_ret2
            exact ⟨by rw [Hat.out, HE2.out]; rfl, HB.out⟩
          · have HE2 := Lib.hid (show quotR s 34 at_ q true = quotR s 34 at_ (q + n) false by rw [HE.out, if_neg h10, if_neg h0, if_neg (fun x => by cases x.2)]; simp)
            by_cases hrq : r = 34
            · subst hrq
              go_wp2_with fail
              refine (HR.out _ HBr.out).mono ?_
              rintro e w1 ⟨rfl, hB1⟩
              have HB := Lib.hid (HBr.out.trans (hB1.mono HBr.out.size))
              have c1' := (HX.out.below HB.out).c1
              clear hB1
              go_wp2_with fail
              go_roundg (gk - n)
              case measure => omega
              case rel => exact ⟨q + n, false, by omega, rfl, by go_num, by rw [Hat.out, HE2.out], HB.out⟩
            · have hrqI : (r == 34) = false := beq_eq_false_iff_ne.2 hrq
              by_cases h92 : r = 92
              · subst h92
                go_wp2_with fail
                refine (HR.out _ HBr.out).mono ?_
                rintro e w1 ⟨rfl, hB1⟩
                have HB := Lib.hid (HBr.out.trans (hB1.mono HBr.out.size))
                have c1' := (HX.out.below HB.out).c1
                clear hB1
                go_wp2_with fail
                go_roundg (gk - n)
                case measure => omega
                case rel => exact ⟨q + n, false, by omega, rfl, by go_num, by rw [Hat.out, HE2.out], HB.out⟩
              · have h92I : (r == 92) = false := beq_eq_false_iff_ne.2 h92
                go_wp2_with fail
                refine (HR.out _ HBr.out).mono ?_
                rintro e w1 ⟨rfl, hB1⟩
                have HB := Lib.hid (HBr.out.trans (hB1.mono HBr.out.size))
                have c1' := (HX.out.below HB.out).c1
                clear hB1
                go_wp2_with fail
                go_roundg (gk - n)
                case measure => omega
                case rel => exact ⟨q + n, false, by omega, rfl, by go_num, by rw [Hat.out, HE2.out], HB.out⟩
    · have HE2 := Lib.hid (show quotR s 34 at_ q bh = .inl at_ by rw [quotR, dif_neg hq])
      rw [rn_out hq] at HR
      go_wp2_with fail
      refine (HR.out _ HBr.out).mono ?_
      rintro e w1 ⟨rfl, hB1⟩
      have HB := Lib.hid (HBr.out.trans (hB1.mono HBr.out.size))
      have c1' := (HX.out.below HB.out).c1
      clear hB1
      go_wp2_with fail
      go_quiet (fail)
      go_wp2_with fail
      go_ret2
      exact ⟨by rw [Hat.out, HE2.out]; rfl, below_drewN HB.out _⟩
end Go.Proofs.YtejogobhnbjpdaaDoor
