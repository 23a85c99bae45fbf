/- Walks: what stands between raw quotes, by the document. -/
import Derived.Test.YtejogobhnbjpdaaGreatDoorRe
namespace Go.Proofs.YtejogobhnbjpdaaGreatDoor
set_option linter.unusedVariables false
set_option linter.unusedSimpArgs false
open Go.ChangeShapes Go.WideShapes Go.ChangeAt Go.RowKit

set_option maxRecDepth 100000 in
set_option maxHeartbeats 4000000 in
theorem refRaw_any (s : ByteArray) (at_ : Nat) (w : World) (hs : s.size ≤ 1048576) (ha : at_ < s.size) (hq0 : byt s at_ = 96) :
    Calls Tryz.prog 57 #[.string s, .int .i64 at_, .int .i64 4] w fun e w' => e = .returned (quoV at_ 4 (closedR s [96] at_ (at_ + 1))) ∧ Below w.heap.size w w' := by
  have haI : (at_ : Int) < (s.size : Int) := by omega
  have hb0 : (s[at_]'ha).toNat = 96 := by rw [byt_at3 s at_ ha]; exact hq0
  have hnew := heap_alloc_new w (.cells #[.int .i64 0, .int .i64 0, .int .i64 0] 67)
  have hBa := (Below.refl w.heap.size w).alloc (Nat.le_refl _) (.cells #[.int .i64 0, .int .i64 0, .int .i64 0] 67)
  have Hnew := Lib.hid hnew
  have HBa := Lib.hid hBa
  clear hnew hBa
  go_enter Tryz.func57, Tryz.ntmps57
  go_wp2_with fail
  generalize w.alloc (.cells #[.int .i64 0, .int .i64 0, .int .i64 0] 67) = wa at *
  have Hlt := Lib.hid (lt_of_block Hnew.out)
  clear hb0
  go_loopg [9] (s.size - (at_ + 1)) (fun g iv wr => ∃ q : Nat, at_ + 1 ≤ q ∧ q + g = s.size ∧ iv = .int .i64 q ∧ closedR s [96] at_ (at_ + 1) = closedR s [96] at_ q ∧ Below wa.heap.size wa wr)
  case atStart => exact ⟨at_ + 1, Nat.le_refl _, by omega, by go_num, rfl, Below.refl _ _⟩
  case round =>
    obtain ⟨q, haq, hqg, rfl, hE, hBr⟩ := hrel
    have HR := Lib.hid (fun w1 => refRune_any s q w1 (by omega))
    have HBr := Lib.hid hBr
    have Hat := Lib.hid hE
    have HBk := Lib.hid ((hBr.block w.heap.size Hlt.out).trans Hnew.out)
    clear hBr hE
    by_cases hq : q < s.size
    · have hqI : (q : Int) < (s.size : Int) := by omega
      have hbq := byt_at3 s q hq
      have hr := runeAt_range s q hq
      rw [rn_in hq] at HR
      have hp := pre1 s q 96 (Nat.le_of_lt hq)
      have e96 : (96 : UInt8).toNat = 96 := rfl
      have HE := Lib.hid (show closedR s [96] at_ q = if (runeAt s q).1 < 0 then .inl q else if pre s q [96] = true then .inr (q + 1) else closedR s [96] at_ (q + (runeAt s q).2) by rw [closedR, dif_pos hq]; rfl)
      by_cases hqq : byt s q = 96
      · have eq1 : (((s[q]'hq).toNat : Int) == 96) = true := beq_iff_eq.2 (by rw [hbq]; omega)
        have hrl := (rune_byte hq 96 (by omega) (by omega)).2 hqq
        have HE2 := Lib.hid (show closedR s [96] at_ q = .inr (q + 1) by rw [HE.out, if_neg (by omega), if_pos (hp.2 ⟨hq, by omega⟩)])
        clear hbq hqq hrl hp e96
        have c0 := block_cell HBk.out 0
        have c1 := block_cell HBk.out 1
        have c2 := block_cell HBk.out 2
        have f0 := block_free HBk.out 0
        have f1 := block_free HBk.out 1
        have f2 := block_free HBk.out 2
        go_wp2_with fail
        exact ret44 _ _ _ _ _ HBk.out rfl rfl ⟨by rw [Hat.out, HE2.out]; simp only [quoV, thV]; go_num, below_set3 (HBa.out.trans (HBr.out.mono HBa.out.size)) HBk.out (Nat.le_refl _) _ _ _⟩
      · have eq1 : (((s[q]'hq).toNat : Int) == 96) = false := beq_eq_false_iff_ne.2 (by rw [hbq]; omega)
        have HE3 := Lib.hid (show closedR s [96] at_ q = if (runeAt s q).1 < 0 then .inl q else closedR s [96] at_ (q + (runeAt s q).2) by rw [HE.out, if_neg (fun h => hqq (by have := (hp.1 h).2; omega) : ¬ pre s q [96] = true)])
        clear hbq hqq hp e96
        by_cases h0 : (runeAt s q).1 < 0
        · have HE2 := Lib.hid (show closedR s [96] at_ q = .inl q by rw [HE3.out, if_pos h0])
          cases e10 : (((s[q]'hq).toNat : Int) == 10)
          all_goals
            go_wp2_with fail
            refine (HR.out _).mono ?_
            rintro e w1 ⟨rfl, hB1⟩
            have HB := Lib.hid (HBr.out.trans (hB1.mono HBr.out.size))
            have HBk1 := Lib.hid ((HB.out.block w.heap.size Hlt.out).trans Hnew.out)
            clear hB1
            have c0 := block_cell HBk1.out 0
            have c1 := block_cell HBk1.out 1
            have c2 := block_cell HBk1.out 2
            have f0 := block_free HBk1.out 0
            have f1 := block_free HBk1.out 1
            have f2 := block_free HBk1.out 2
            go_wp2_with fail
            exact ret44 _ _ _ _ _ HBk1.out rfl rfl ⟨by rw [Hat.out, HE2.out]; rfl, below_set3 (HBa.out.trans (HB.out.mono HBa.out.size)) HBk1.out (Nat.le_refl _) _ _ _⟩
        · have HE2 := Lib.hid (show closedR s [96] at_ q = closedR s [96] at_ (q + (runeAt s q).2) by rw [HE3.out, if_neg h0])
          cases e10 : (((s[q]'hq).toNat : Int) == 10)
          all_goals
            cases e92 : ((runeAt s q).1 == 92)
            all_goals
              go_wp2_with fail
              refine (HR.out _).mono ?_
              rintro e w1 ⟨rfl, hB1⟩
              have HB := Lib.hid (HBr.out.trans (hB1.mono HBr.out.size))
              clear hB1
              go_wp2_with fail
              go_roundg (gk - (runeAt s q).2)
              case measure => omega
              case rel => exact ⟨q + (runeAt s q).2, by omega, by omega, by go_num, Hat.out.trans HE2.out, HB.out⟩
    · obtain rfl : q = s.size := by omega
      have HE2 := Lib.hid (show closedR s [96] at_ s.size = .inl at_ by rw [closedR, dif_neg hq])
      have c0 := block_cell HBk.out 0
      have c1 := block_cell HBk.out 1
      have c2 := block_cell HBk.out 2
      have f0 := block_free HBk.out 0
      have f1 := block_free HBk.out 1
      have f2 := block_free HBk.out 2
      go_wp2_with fail
      exact ret44 _ _ _ _ _ HBk.out rfl rfl ⟨by rw [Hat.out, HE2.out]; rfl, below_set3 (HBa.out.trans (HBr.out.mono HBa.out.size)) HBk.out (Nat.le_refl _) _ _ _⟩
end Go.Proofs.YtejogobhnbjpdaaGreatDoor
