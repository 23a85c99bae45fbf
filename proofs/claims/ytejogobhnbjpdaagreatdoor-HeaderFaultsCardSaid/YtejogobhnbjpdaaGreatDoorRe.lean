/- Walks: what stands between quotes, by the document. -/
import Derived.Test.YtejogobhnbjpdaaGreatDoorRd
namespace Go.Proofs.YtejogobhnbjpdaaGreatDoor
set_option linter.unusedVariables false
set_option linter.unusedSimpArgs false
open Go.ChangeShapes Go.WideShapes Go.ChangeAt Go.RowKit

def quoV (q k : Nat) : Rs → Value | .inl f => thV 7 0 f | .inr e => thV k (e - q) 0
theorem ret44 {R : Ending → World → Prop} {a : Act} (w : World) (g : Nat) (x y z : Value) (hg : w.heap[g]? = some (.cells #[.int .i64 0, .int .i64 0, .int .i64 0] 67 (0, 0)))
    (hp : a.tmps.getD 6 undef = .pointer (some ⟨g, 0, none⟩)) (hd : a.defers = []) (hR : R (.returned (.agg #[x, y, z])) (w.setRow g #[x, y, z])) :
    bodyPost Tryz.prog Tryz.f57 R .ret a (((w.setCell ⟨g, 0, none⟩ x).setCell ⟨g, 1, none⟩ y).setCell ⟨g, 2, none⟩ z) := by
  rw [set3 w g _ _ _ x y z _ _ hg]
  exact bodyPost_ret (results_cell_row (fr := (0, 0)) rfl _ _ g 67 _ _ hp (setRow_heap _ _ _ _ _ _ hg) Tryz.underlying67 rfl size49) hd hR
set_option maxRecDepth 100000 in
set_option maxHeartbeats 4000000 in
theorem refQuote34_any (s : ByteArray) (at_ : Nat) (w : World) (hs : s.size ≤ 1048576) (ha : at_ < s.size) (hq0 : byt s at_ = 34) :
    Calls Tryz.prog 57 #[.string s, .int .i64 at_, .int .i64 4] w fun e w' => e = .returned (quoV at_ 4 (quotD s 34 at_ (at_ + 1))) ∧ Below w.heap.size w w' := by
  have haI : (at_ : Int) < (s.size : Int) := by omega
  have hb0 : (s[at_]'ha).toNat = 34 := by rw [byt_at3 s at_ ha]; exact hq0
  have hnew := heap_alloc_new w (.cells #[.int .i64 0, .int .i64 0, .int .i64 0] 67)
  have hBa := (Below.refl w.heap.size w).alloc (Nat.le_refl _) (.cells #[.int .i64 0, .int .i64 0, .int .i64 0] 67)
  have Hnew := Lib.hid hnew
  have HBa := Lib.hid hBa
  clear hnew hBa
  go_enter Tryz.func57, Tryz.ntmps57
  go_wp2_with fail
  generalize w.alloc (.cells #[.int .i64 0, .int .i64 0, .int .i64 0] 67) = wa at *
  have Hlt := Lib.hid (lt_of_block Hnew.out)
  clear hb0
  go_loopg [9] (s.size - (at_ + 1)) (fun g iv wr => ∃ q : Nat, at_ + 1 ≤ q ∧ q + g = s.size ∧ iv = .int .i64 q ∧ quotD s 34 at_ (at_ + 1) = quotD s 34 at_ q ∧ Below wa.heap.size wa wr)
  case atStart => exact ⟨at_ + 1, Nat.le_refl _, by omega, by go_num, rfl, Below.refl _ _⟩
  case round =>
    obtain ⟨q, haq, hqg, rfl, hE, hBr⟩ := hrel
    have HR := Lib.hid (fun w1 => refRune_any s q w1 (by omega))
    have HBr := Lib.hid hBr
    have Hat := Lib.hid hE
    have HBk := Lib.hid ((hBr.block w.heap.size Hlt.out).trans Hnew.out)
    clear hBr hE
    by_cases hq : q < s.size
    · have hqI : (q : Int) < (s.size : Int) := by omega
      have hbq := byt_at3 s q hq
      have hr := runeAt_range s q hq
      have hrb := rune_byte hq 10 (by omega) (by omega)
      rw [rn_in hq] at HR
      have HE := Lib.hid (show quotD s 34 at_ q = if byt s q = 34 then (if (34 = 39 ∧ q = at_ + 1) then .inl at_ else .inr (q + 1)) else if byt s q = 10 then .inl at_ else if (runeAt s q).1 < 0 then .inl q else if (runeAt s q).1 = 92 then (if h2 : q + (runeAt s q).2 < s.size then (if (runeAt s (q + (runeAt s q).2)).1 = 10 then .inl at_ else if (runeAt s (q + (runeAt s q).2)).1 < 0 then .inl (q + (runeAt s q).2) else quotD s 34 at_ (q + (runeAt s q).2 + (runeAt s (q + (runeAt s q).2)).2)) else .inl at_) else quotD s 34 at_ (q + (runeAt s q).2) by rw [quotD, dif_pos hq])
      by_cases hqq : byt s q = 34
      · have eq1 : (((s[q]'hq).toNat : Int) == 34) = true := beq_iff_eq.2 (by rw [hbq]; omega)
        have HE2 := Lib.hid (show quotD s 34 at_ q = .inr (q + 1) by rw [HE.out, if_pos hqq, if_neg (fun h => absurd h.1 (by decide))])
        clear hbq hqq hrb
        have c0 := block_cell HBk.out 0
        have c1 := block_cell HBk.out 1
        have c2 := block_cell HBk.out 2
        have f0 := block_free HBk.out 0
        have f1 := block_free HBk.out 1
        have f2 := block_free HBk.out 2
        go_wp2_with fail
        exact ret44 _ _ _ _ _ HBk.out rfl rfl ⟨by rw [Hat.out, HE2.out]; simp only [quoV, thV]; go_num, below_set3 (HBa.out.trans (HBr.out.mono HBa.out.size)) HBk.out (Nat.le_refl _) _ _ _⟩
      · have eq1 : (((s[q]'hq).toNat : Int) == 34) = false := beq_eq_false_iff_ne.2 (by rw [hbq]; omega)
        by_cases h10 : byt s q = 10
        · have HE2 := Lib.hid (show quotD s 34 at_ q = .inl at_ by rw [HE.out, if_neg hqq, if_pos h10])
          have e10 : (((s[q]'hq).toNat : Int) == 10) = true := beq_iff_eq.2 (by rw [hbq]; omega)
          clear hbq hqq hrb h10
          have c0 := block_cell HBk.out 0
          have c1 := block_cell HBk.out 1
          have c2 := block_cell HBk.out 2
          have f0 := block_free HBk.out 0
          have f1 := block_free HBk.out 1
          have f2 := block_free HBk.out 2
          go_wp2_with fail
          exact ret44 _ _ _ _ _ HBk.out rfl rfl ⟨by rw [Hat.out, HE2.out]; rfl, below_set3 (HBa.out.trans (HBr.out.mono HBa.out.size)) HBk.out (Nat.le_refl _) _ _ _⟩
        · have e10 : (((s[q]'hq).toNat : Int) == 10) = false := beq_eq_false_iff_ne.2 (by rw [hbq]; omega)
          have HE3 := Lib.hid (HE.out.trans (by rw [if_neg hqq, if_neg h10]))
          clear hbq hqq hrb h10
          by_cases h0 : (runeAt s q).1 < 0
          · have HE2 := Lib.hid (show quotD s 34 at_ q = .inl q by rw [HE3.out, if_pos h0])
            go_wp2_with fail
            refine (HR.out _).mono ?_
            rintro e w1 ⟨rfl, hB1⟩
            have HB := Lib.hid (HBr.out.trans (hB1.mono HBr.out.size))
            have HBk1 := Lib.hid ((HB.out.block w.heap.size Hlt.out).trans Hnew.out)
            clear hB1
            have c0 := block_cell HBk1.out 0
            have c1 := block_cell HBk1.out 1
            have c2 := block_cell HBk1.out 2
            have f0 := block_free HBk1.out 0
            have f1 := block_free HBk1.out 1
            have f2 := block_free HBk1.out 2
            go_wp2_with fail
            exact ret44 _ _ _ _ _ HBk1.out rfl rfl ⟨by rw [Hat.out, HE2.out]; rfl, below_set3 (HBa.out.trans (HB.out.mono HBa.out.size)) HBk1.out (Nat.le_refl _) _ _ _⟩
          · have HE4 := Lib.hid (HE3.out.trans (by rw [if_neg h0]))
            by_cases h92 : (runeAt s q).1 = 92
            · have e92 : ((runeAt s q).1 == 92) = true := beq_iff_eq.2 h92
              have HE5 := Lib.hid (HE4.out.trans (by rw [if_pos h92]))
              have ecast : ((q + (runeAt s q).2 : Nat) : Int) = (q : Int) + ((runeAt s q).2 : Int) := by omega
              have HR2 := Lib.hid (fun w1 => refRune_any s (q + (runeAt s q).2) w1 (by omega))
              rw [ecast] at HR2
              by_cases h2 : q + (runeAt s q).2 < s.size
              · have hr2 := runeAt_range s _ h2
                rw [rn_in h2] at HR2
                have HE6 := Lib.hid (HE5.out.trans (by rw [dif_pos h2]))
                have ek : (((runeAt s (q + (runeAt s q).2)).2 : Int) == 0) = false := beq_eq_false_iff_ne.2 (by omega)
                by_cases g10 : (runeAt s (q + (runeAt s q).2)).1 = 10
                · have HE2 := Lib.hid (show quotD s 34 at_ q = .inl at_ by rw [HE6.out, if_pos g10])
                  have eg10 : ((runeAt s (q + (runeAt s q).2)).1 == 10) = true := beq_iff_eq.2 g10
                  go_wp2_with fail
                  refine (HR.out _).mono ?_
                  rintro e w1 ⟨rfl, hB1⟩
                  have HB := Lib.hid (HBr.out.trans (hB1.mono HBr.out.size))
                  clear hB1
                  go_wp2_with fail
                  refine (HR2.out _).mono ?_
                  rintro e w2 ⟨rfl, hB2⟩
                  have HC := Lib.hid (HB.out.trans (hB2.mono HB.out.size))
                  have HBk1 := Lib.hid ((HC.out.block w.heap.size Hlt.out).trans Hnew.out)
                  clear hB2
                  have c0 := block_cell HBk1.out 0
                  have c1 := block_cell HBk1.out 1
                  have c2 := block_cell HBk1.out 2
                  have f0 := block_free HBk1.out 0
                  have f1 := block_free HBk1.out 1
                  have f2 := block_free HBk1.out 2
                  go_wp2_with fail
                  exact ret44 _ _ _ _ _ HBk1.out rfl rfl ⟨by rw [Hat.out, HE2.out]; rfl, below_set3 (HBa.out.trans (HC.out.mono HBa.out.size)) HBk1.out (Nat.le_refl _) _ _ _⟩
                · have HE7 := Lib.hid (HE6.out.trans (by rw [if_neg g10]))
                  have eg10 : ((runeAt s (q + (runeAt s q).2)).1 == 10) = false := beq_eq_false_iff_ne.2 g10
                  by_cases g0 : (runeAt s (q + (runeAt s q).2)).1 < 0
                  · have HE2 := Lib.hid (show quotD s 34 at_ q = .inl (q + (runeAt s q).2) by rw [HE7.out, if_pos g0])
                    go_wp2_with fail
                    refine (HR.out _).mono ?_
                    rintro e w1 ⟨rfl, hB1⟩
                    have HB := Lib.hid (HBr.out.trans (hB1.mono HBr.out.size))
                    clear hB1
                    go_wp2_with fail
                    refine (HR2.out _).mono ?_
                    rintro e w2 ⟨rfl, hB2⟩
                    have HC := Lib.hid (HB.out.trans (hB2.mono HB.out.size))
                    have HBk1 := Lib.hid ((HC.out.block w.heap.size Hlt.out).trans Hnew.out)
                    clear hB2
                    have c0 := block_cell HBk1.out 0
                    have c1 := block_cell HBk1.out 1
                    have c2 := block_cell HBk1.out 2
                    have f0 := block_free HBk1.out 0
                    have f1 := block_free HBk1.out 1
                    have f2 := block_free HBk1.out 2
                    go_wp2_with fail
                    exact ret44 _ _ _ _ _ HBk1.out rfl rfl ⟨by rw [Hat.out, HE2.out]; rfl, below_set3 (HBa.out.trans (HC.out.mono HBa.out.size)) HBk1.out (Nat.le_refl _) _ _ _⟩
                  · have HE2 := Lib.hid (show quotD s 34 at_ q = quotD s 34 at_ (q + (runeAt s q).2 + (runeAt s (q + (runeAt s q).2)).2) by rw [HE7.out, if_neg g0])
                    go_wp2_with fail
                    refine (HR.out _).mono ?_
                    rintro e w1 ⟨rfl, hB1⟩
                    have HB := Lib.hid (HBr.out.trans (hB1.mono HBr.out.size))
                    clear hB1
                    go_wp2_with fail
                    refine (HR2.out _).mono ?_
                    rintro e w2 ⟨rfl, hB2⟩
                    have HC := Lib.hid (HB.out.trans (hB2.mono HB.out.size))
                    clear hB2
                    go_wp2_with fail
                    go_roundg (gk - (runeAt s q).2 - (runeAt s (q + (runeAt s q).2)).2)
                    case measure => omega
                    case rel => exact ⟨q + (runeAt s q).2 + (runeAt s (q + (runeAt s q).2)).2, by omega, by omega, by go_num, Hat.out.trans HE2.out, HC.out⟩
              · rw [rn_out h2] at HR2
                have HE2 := Lib.hid (show quotD s 34 at_ q = .inl at_ by rw [HE5.out, dif_neg h2])
                go_wp2_with fail
                refine (HR.out _).mono ?_
                rintro e w1 ⟨rfl, hB1⟩
                have HB := Lib.hid (HBr.out.trans (hB1.mono HBr.out.size))
                clear hB1
                go_wp2_with fail
                refine (HR2.out _).mono ?_
                rintro e w2 ⟨rfl, hB2⟩
                have HC := Lib.hid (HB.out.trans (hB2.mono HB.out.size))
                have HBk1 := Lib.hid ((HC.out.block w.heap.size Hlt.out).trans Hnew.out)
                clear hB2
                have c0 := block_cell HBk1.out 0
                have c1 := block_cell HBk1.out 1
                have c2 := block_cell HBk1.out 2
                have f0 := block_free HBk1.out 0
                have f1 := block_free HBk1.out 1
                have f2 := block_free HBk1.out 2
                go_wp2_with fail
                exact ret44 _ _ _ _ _ HBk1.out rfl rfl ⟨by rw [Hat.out, HE2.out]; rfl, below_set3 (HBa.out.trans (HC.out.mono HBa.out.size)) HBk1.out (Nat.le_refl _) _ _ _⟩
            · have e92 : ((runeAt s q).1 == 92) = false := beq_eq_false_iff_ne.2 h92
              have HE2 := Lib.hid (show quotD s 34 at_ q = quotD s 34 at_ (q + (runeAt s q).2) by rw [HE4.out, if_neg h92])
              go_wp2_with fail
              refine (HR.out _).mono ?_
              rintro e w1 ⟨rfl, hB1⟩
              have HB := Lib.hid (HBr.out.trans (hB1.mono HBr.out.size))
              clear hB1
              go_wp2_with fail
              go_roundg (gk - (runeAt s q).2)
              case measure => omega
              case rel => exact ⟨q + (runeAt s q).2, by omega, by omega, by go_num, Hat.out.trans HE2.out, HB.out⟩
    · obtain rfl : q = s.size := by omega
      have HE2 := Lib.hid (show quotD s 34 at_ s.size = .inl at_ by rw [quotD, dif_neg hq])
      have c0 := block_cell HBk.out 0
      have c1 := block_cell HBk.out 1
      have c2 := block_cell HBk.out 2
      have f0 := block_free HBk.out 0
      have f1 := block_free HBk.out 1
      have f2 := block_free HBk.out 2
      go_wp2_with fail
      exact ret44 _ _ _ _ _ HBk.out rfl rfl ⟨by rw [Hat.out, HE2.out]; rfl, below_set3 (HBa.out.trans (HBr.out.mono HBa.out.size)) HBk.out (Nat.le_refl _) _ _ _⟩
set_option maxRecDepth 100000 in
set_option maxHeartbeats 4000000 in
theorem refQuote39_any (s : ByteArray) (at_ : Nat) (w : World) (hs : s.size ≤ 1048576) (ha : at_ < s.size) (hq0 : byt s at_ = 39) :
    Calls Tryz.prog 57 #[.string s, .int .i64 at_, .int .i64 3] w fun e w' => e = .returned (quoV at_ 3 (quotD s 39 at_ (at_ + 1))) ∧ Below w.heap.size w w' := by
  have haI : (at_ : Int) < (s.size : Int) := by omega
  have hb0 : (s[at_]'ha).toNat = 39 := by rw [byt_at3 s at_ ha]; exact hq0
  have hnew := heap_alloc_new w (.cells #[.int .i64 0, .int .i64 0, .int .i64 0] 67)
  have hBa := (Below.refl w.heap.size w).alloc (Nat.le_refl _) (.cells #[.int .i64 0, .int .i64 0, .int .i64 0] 67)
  have Hnew := Lib.hid hnew
  have HBa := Lib.hid hBa
  clear hnew hBa
  go_enter Tryz.func57, Tryz.ntmps57
  go_wp2_with fail
  generalize w.alloc (.cells #[.int .i64 0, .int .i64 0, .int .i64 0] 67) = wa at *
  have Hlt := Lib.hid (lt_of_block Hnew.out)
  clear hb0
  go_loopg [9] (s.size - (at_ + 1)) (fun g iv wr => ∃ q : Nat, at_ + 1 ≤ q ∧ q + g = s.size ∧ iv = .int .i64 q ∧ quotD s 39 at_ (at_ + 1) = quotD s 39 at_ q ∧ Below wa.heap.size wa wr)
  case atStart => exact ⟨at_ + 1, Nat.le_refl _, by omega, by go_num, rfl, Below.refl _ _⟩
  case round =>
    obtain ⟨q, haq, hqg, rfl, hE, hBr⟩ := hrel
    have HR := Lib.hid (fun w1 => refRune_any s q w1 (by omega))
    have HBr := Lib.hid hBr
    have Hat := Lib.hid hE
    have HBk := Lib.hid ((hBr.block w.heap.size Hlt.out).trans Hnew.out)
    clear hBr hE
    by_cases hq : q < s.size
    · have hqI : (q : Int) < (s.size : Int) := by omega
      have hbq := byt_at3 s q hq
      have hr := runeAt_range s q hq
      have hrb := rune_byte hq 10 (by omega) (by omega)
      rw [rn_in hq] at HR
      have HE := Lib.hid (show quotD s 39 at_ q = if byt s q = 39 then (if (39 = 39 ∧ q = at_ + 1) then .inl at_ else .inr (q + 1)) else if byt s q = 10 then .inl at_ else if (runeAt s q).1 < 0 then .inl q else if (runeAt s q).1 = 92 then (if h2 : q + (runeAt s q).2 < s.size then (if (runeAt s (q + (runeAt s q).2)).1 = 10 then .inl at_ else if (runeAt s (q + (runeAt s q).2)).1 < 0 then .inl (q + (runeAt s q).2) else quotD s 39 at_ (q + (runeAt s q).2 + (runeAt s (q + (runeAt s q).2)).2)) else .inl at_) else quotD s 39 at_ (q + (runeAt s q).2) by rw [quotD, dif_pos hq])
      by_cases hqq : byt s q = 39
      · have eq1 : (((s[q]'hq).toNat : Int) == 39) = true := beq_iff_eq.2 (by rw [hbq]; omega)
        by_cases h1 : q = at_ + 1
        · have HE2 := Lib.hid (show quotD s 39 at_ q = .inl at_ by rw [HE.out, if_pos hqq, if_pos ⟨rfl, h1⟩])
          have e1 : ((q : Int) == (at_ : Int) + 1) = true := beq_iff_eq.2 (by omega)
          clear hbq hqq hrb h1
          have c0 := block_cell HBk.out 0
          have c1 := block_cell HBk.out 1
          have c2 := block_cell HBk.out 2
          have f0 := block_free HBk.out 0
          have f1 := block_free HBk.out 1
          have f2 := block_free HBk.out 2
          go_wp2_with fail
          exact ret44 _ _ _ _ _ HBk.out rfl rfl ⟨by rw [Hat.out, HE2.out]; rfl, below_set3 (HBa.out.trans (HBr.out.mono HBa.out.size)) HBk.out (Nat.le_refl _) _ _ _⟩
        · have HE2 := Lib.hid (show quotD s 39 at_ q = .inr (q + 1) by rw [HE.out, if_pos hqq, if_neg (fun h => h1 h.2)])
          have e1 : ((q : Int) == (at_ : Int) + 1) = false := beq_eq_false_iff_ne.2 (by omega)
          clear hbq hqq hrb
          have c0 := block_cell HBk.out 0
          have c1 := block_cell HBk.out 1
          have c2 := block_cell HBk.out 2
          have f0 := block_free HBk.out 0
          have f1 := block_free HBk.out 1
          have f2 := block_free HBk.out 2
          go_wp2_with fail
          exact ret44 _ _ _ _ _ HBk.out rfl rfl ⟨by rw [Hat.out, HE2.out]; simp only [quoV, thV]; go_num, below_set3 (HBa.out.trans (HBr.out.mono HBa.out.size)) HBk.out (Nat.le_refl _) _ _ _⟩
      · have eq1 : (((s[q]'hq).toNat : Int) == 39) = false := beq_eq_false_iff_ne.2 (by rw [hbq]; omega)
        by_cases h10 : byt s q = 10
        · have HE2 := Lib.hid (show quotD s 39 at_ q = .inl at_ by rw [HE.out, if_neg hqq, if_pos h10])
          have e10 : (((s[q]'hq).toNat : Int) == 10) = true := beq_iff_eq.2 (by rw [hbq]; omega)
          clear hbq hqq hrb h10
          have c0 := block_cell HBk.out 0
          have c1 := block_cell HBk.out 1
          have c2 := block_cell HBk.out 2
          have f0 := block_free HBk.out 0
          have f1 := block_free HBk.out 1
          have f2 := block_free HBk.out 2
          go_wp2_with fail
          exact ret44 _ _ _ _ _ HBk.out rfl rfl ⟨by rw [Hat.out, HE2.out]; rfl, below_set3 (HBa.out.trans (HBr.out.mono HBa.out.size)) HBk.out (Nat.le_refl _) _ _ _⟩
        · have e10 : (((s[q]'hq).toNat : Int) == 10) = false := beq_eq_false_iff_ne.2 (by rw [hbq]; omega)
          have HE3 := Lib.hid (HE.out.trans (by rw [if_neg hqq, if_neg h10]))
          clear hbq hqq hrb h10
          by_cases h0 : (runeAt s q).1 < 0
          · have HE2 := Lib.hid (show quotD s 39 at_ q = .inl q by rw [HE3.out, if_pos h0])
            go_wp2_with fail
            refine (HR.out _).mono ?_
            rintro e w1 ⟨rfl, hB1⟩
            have HB := Lib.hid (HBr.out.trans (hB1.mono HBr.out.size))
            have HBk1 := Lib.hid ((HB.out.block w.heap.size Hlt.out).trans Hnew.out)
            clear hB1
            have c0 := block_cell HBk1.out 0
            have c1 := block_cell HBk1.out 1
            have c2 := block_cell HBk1.out 2
            have f0 := block_free HBk1.out 0
            have f1 := block_free HBk1.out 1
            have f2 := block_free HBk1.out 2
            go_wp2_with fail
            exact ret44 _ _ _ _ _ HBk1.out rfl rfl ⟨by rw [Hat.out, HE2.out]; rfl, below_set3 (HBa.out.trans (HB.out.mono HBa.out.size)) HBk1.out (Nat.le_refl _) _ _ _⟩
          · have HE4 := Lib.hid (HE3.out.trans (by rw [if_neg h0]))
            by_cases h92 : (runeAt s q).1 = 92
            · have e92 : ((runeAt s q).1 == 92) = true := beq_iff_eq.2 h92
              have HE5 := Lib.hid (HE4.out.trans (by rw [if_pos h92]))
              have ecast : ((q + (runeAt s q).2 : Nat) : Int) = (q : Int) + ((runeAt s q).2 : Int) := by omega
              have HR2 := Lib.hid (fun w1 => refRune_any s (q + (runeAt s q).2) w1 (by omega))
              rw [ecast] at HR2
              by_cases h2 : q + (runeAt s q).2 < s.size
              · have hr2 := runeAt_range s _ h2
                rw [rn_in h2] at HR2
                have HE6 := Lib.hid (HE5.out.trans (by rw [dif_pos h2]))
                have ek : (((runeAt s (q + (runeAt s q).2)).2 : Int) == 0) = false := beq_eq_false_iff_ne.2 (by omega)
                by_cases g10 : (runeAt s (q + (runeAt s q).2)).1 = 10
                · have HE2 := Lib.hid (show quotD s 39 at_ q = .inl at_ by rw [HE6.out, if_pos g10])
                  have eg10 : ((runeAt s (q + (runeAt s q).2)).1 == 10) = true := beq_iff_eq.2 g10
                  go_wp2_with fail
                  refine (HR.out _).mono ?_
                  rintro e w1 ⟨rfl, hB1⟩
                  have HB := Lib.hid (HBr.out.trans (hB1.mono HBr.out.size))
                  clear hB1
                  go_wp2_with fail
                  refine (HR2.out _).mono ?_
                  rintro e w2 ⟨rfl, hB2⟩
                  have HC := Lib.hid (HB.out.trans (hB2.mono HB.out.size))
                  have HBk1 := Lib.hid ((HC.out.block w.heap.size Hlt.out).trans Hnew.out)
                  clear hB2
                  have c0 := block_cell HBk1.out 0
                  have c1 := block_cell HBk1.out 1
                  have c2 := block_cell HBk1.out 2
                  have f0 := block_free HBk1.out 0
                  have f1 := block_free HBk1.out 1
                  have f2 := block_free HBk1.out 2
                  go_wp2_with fail
                  exact ret44 _ _ _ _ _ HBk1.out rfl rfl ⟨by rw [Hat.out, HE2.out]; rfl, below_set3 (HBa.out.trans (HC.out.mono HBa.out.size)) HBk1.out (Nat.le_refl _) _ _ _⟩
                · have HE7 := Lib.hid (HE6.out.trans (by rw [if_neg g10]))
                  have eg10 : ((runeAt s (q + (runeAt s q).2)).1 == 10) = false := beq_eq_false_iff_ne.2 g10
                  by_cases g0 : (runeAt s (q + (runeAt s q).2)).1 < 0
                  · have HE2 := Lib.hid (show quotD s 39 at_ q = .inl (q + (runeAt s q).2) by rw [HE7.out, if_pos g0])
                    go_wp2_with fail
                    refine (HR.out _).mono ?_
                    rintro e w1 ⟨rfl, hB1⟩
                    have HB := Lib.hid (HBr.out.trans (hB1.mono HBr.out.size))
                    clear hB1
                    go_wp2_with fail
                    refine (HR2.out _).mono ?_
                    rintro e w2 ⟨rfl, hB2⟩
                    have HC := Lib.hid (HB.out.trans (hB2.mono HB.out.size))
                    have HBk1 := Lib.hid ((HC.out.block w.heap.size Hlt.out).trans Hnew.out)
                    clear hB2
                    have c0 := block_cell HBk1.out 0
                    have c1 := block_cell HBk1.out 1
                    have c2 := block_cell HBk1.out 2
                    have f0 := block_free HBk1.out 0
                    have f1 := block_free HBk1.out 1
                    have f2 := block_free HBk1.out 2
                    go_wp2_with fail
                    exact ret44 _ _ _ _ _ HBk1.out rfl rfl ⟨by rw [Hat.out, HE2.out]; rfl, below_set3 (HBa.out.trans (HC.out.mono HBa.out.size)) HBk1.out (Nat.le_refl _) _ _ _⟩
                  · have HE2 := Lib.hid (show quotD s 39 at_ q = quotD s 39 at_ (q + (runeAt s q).2 + (runeAt s (q + (runeAt s q).2)).2) by rw [HE7.out, if_neg g0])
                    go_wp2_with fail
                    refine (HR.out _).mono ?_
                    rintro e w1 ⟨rfl, hB1⟩
                    have HB := Lib.hid (HBr.out.trans (hB1.mono HBr.out.size))
                    clear hB1
                    go_wp2_with fail
                    refine (HR2.out _).mono ?_
                    rintro e w2 ⟨rfl, hB2⟩
                    have HC := Lib.hid (HB.out.trans (hB2.mono HB.out.size))
                    clear hB2
                    go_wp2_with fail
                    go_roundg (gk - (runeAt s q).2 - (runeAt s (q + (runeAt s q).2)).2)
                    case measure => omega
                    case rel => exact ⟨q + (runeAt s q).2 + (runeAt s (q + (runeAt s q).2)).2, by omega, by omega, by go_num, Hat.out.trans HE2.out, HC.out⟩
              · rw [rn_out h2] at HR2
                have HE2 := Lib.hid (show quotD s 39 at_ q = .inl at_ by rw [HE5.out, dif_neg h2])
                go_wp2_with fail
                refine (HR.out _).mono ?_
                rintro e w1 ⟨rfl, hB1⟩
                have HB := Lib.hid (HBr.out.trans (hB1.mono HBr.out.size))
                clear hB1
                go_wp2_with fail
                refine (HR2.out _).mono ?_
                rintro e w2 ⟨rfl, hB2⟩
                have HC := Lib.hid (HB.out.trans (hB2.mono HB.out.size))
                have HBk1 := Lib.hid ((HC.out.block w.heap.size Hlt.out).trans Hnew.out)
                clear hB2
                have c0 := block_cell HBk1.out 0
                have c1 := block_cell HBk1.out 1
                have c2 := block_cell HBk1.out 2
                have f0 := block_free HBk1.out 0
                have f1 := block_free HBk1.out 1
                have f2 := block_free HBk1.out 2
                go_wp2_with fail
                exact ret44 _ _ _ _ _ HBk1.out rfl rfl ⟨by rw [Hat.out, HE2.out]; rfl, below_set3 (HBa.out.trans (HC.out.mono HBa.out.size)) HBk1.out (Nat.le_refl _) _ _ _⟩
            · have e92 : ((runeAt s q).1 == 92) = false := beq_eq_false_iff_ne.2 h92
              have HE2 := Lib.hid (show quotD s 39 at_ q = quotD s 39 at_ (q + (runeAt s q).2) by rw [HE4.out, if_neg h92])
              go_wp2_with fail
              refine (HR.out _).mono ?_
              rintro e w1 ⟨rfl, hB1⟩
              have HB := Lib.hid (HBr.out.trans (hB1.mono HBr.out.size))
              clear hB1
              go_wp2_with fail
              go_roundg (gk - (runeAt s q).2)
              case measure => omega
              case rel => exact ⟨q + (runeAt s q).2, by omega, by omega, by go_num, Hat.out.trans HE2.out, HB.out⟩
    · obtain rfl : q = s.size := by omega
      have HE2 := Lib.hid (show quotD s 39 at_ s.size = .inl at_ by rw [quotD, dif_neg hq])
      have c0 := block_cell HBk.out 0
      have c1 := block_cell HBk.out 1
      have c2 := block_cell HBk.out 2
      have f0 := block_free HBk.out 0
      have f1 := block_free HBk.out 1
      have f2 := block_free HBk.out 2
      go_wp2_with fail
      exact ret44 _ _ _ _ _ HBk.out rfl rfl ⟨by rw [Hat.out, HE2.out]; rfl, below_set3 (HBa.out.trans (HBr.out.mono HBa.out.size)) HBk.out (Nat.le_refl _) _ _ _⟩
end Go.Proofs.YtejogobhnbjpdaaGreatDoor
