/- Walks: what stands between quotes, by the document; Walks: what stands between raw quotes, by the document; Walks: the list of the signs, by the document; Walks: what stands at a place, by the document; Walks: a text's tokens and comments, by the document. -/
import Derived.Test.YtejogobhnbjpdaaGreatDoorR1
import Derived.Test.YtejogobhnbjpdaaGreatDoorKl
import Derived.Great.BuildSlice
import Derived.Laws.CopyOwn
namespace Go.Proofs.YtejogobhnbjpdaaGreatDoor
set_option linter.unusedVariables false
set_option linter.unusedSimpArgs false
open Go.ChangeShapes Go.WideShapes Go.ChangeAt Go.RowKit

def quoV (q k : Nat) : Rs → Value | .inl f => thV 7 0 f | .inr e => thV k (e - q) 0
theorem ret44 {R : Ending → World → Prop} {a : Act} (w : World) (g : Nat) (x y z : Value) (hg : w.heap[g]? = some (.cells #[.int .i64 0, .int .i64 0, .int .i64 0] 67 (0, 0)))
    (hp : a.tmps.getD 6 undef = .pointer (some ⟨g, 0, none⟩)) (hd : a.defers = []) (hR : R (.returned (.agg #[x, y, z])) (w.setRow g #[x, y, z])) :
    bodyPost Tryz.prog Tryz.f57 R .ret a (((w.setCell ⟨g, 0, none⟩ x).setCell ⟨g, 1, none⟩ y).setCell ⟨g, 2, none⟩ z) := by
  rw [set3 w g _ _ _ x y z _ _ hg]
  exact bodyPost_ret (results_cell_row (fr := (0, 0)) rfl _ _ g 67 _ _ hp (setRow_heap _ _ _ _ _ _ hg) Tryz.underlying67 rfl size49) hd hR
set_option maxRecDepth 100000 in
set_option maxHeartbeats 4000000 in
theorem refQuote34_any (s : ByteArray) (at_ : Nat) (w : World) (hs : s.size ≤ 1048576) (ha : at_ < s.size) (hq0 : byt s at_ = 34) :
    Calls Tryz.prog 57 #[.string s, .int .i64 at_, .int .i64 4] w fun e w' => e = .returned (quoV at_ 4 (quotD s 34 at_ (at_ + 1))) ∧ Below w.heap.size w w' := by
  have haI : (at_ : Int) < (s.size : Int) := by omega
  have hb0 : (s[at_]'ha).toNat = 34 := by rw [byt_at3 s at_ ha]; exact hq0
  have hnew := heap_alloc_new w (.cells #[.int .i64 0, .int .i64 0, .int .i64 0] 67)
  have hBa := (Below.refl w.heap.size w).alloc (Nat.le_refl _) (.cells #[.int .i64 0, .int .i64 0, .int .i64 0] 67)
  have Hnew := Lib.hid hnew
  have HBa := Lib.hid hBa
  clear hnew hBa
  go_enter Tryz.func57, Tryz.ntmps57
  go_wp2_with fail
  generalize w.alloc (.cells #[.int .i64 0, .int .i64 0, .int .i64 0] 67) = wa at *
  have Hlt := Lib.hid (lt_of_block Hnew.out)
  clear hb0
  go_loopg [9] (s.size - (at_ + 1)) (fun g iv wr => ∃ q : Nat, at_ + 1 ≤ q ∧ q + g = s.size ∧ iv = .int .i64 q ∧ quotD s 34 at_ (at_ + 1) = quotD s 34 at_ q ∧ Below wa.heap.size wa wr)
  case atStart => exact ⟨at_ + 1, Nat.le_refl _, by omega, by go_num, rfl, Below.refl _ _⟩
  case round =>
    obtain ⟨q, haq, hqg, rfl, hE, hBr⟩ := hrel
    have HR := Lib.hid (fun w1 => refRune_any s q w1 (by omega))
    have HBr := Lib.hid hBr
    have Hat := Lib.hid hE
    have HBk := Lib.hid ((hBr.block w.heap.size Hlt.out).trans Hnew.out)
    clear hBr hE
    by_cases hq : q < s.size
    · have hqI : (q : Int) < (s.size : Int) := by omega
      have hbq := byt_at3 s q hq
      have hr := runeAt_range s q hq
      have hrb := rune_byte hq 10 (by omega) (by omega)
      rw [rn_in hq] at HR
      have HE := Lib.hid (show quotD s 34 at_ q = if byt s q = 34 then (if (34 = 39 ∧ q = at_ + 1) then .inl at_ else .inr (q + 1)) else if byt s q = 10 then .inl at_ else if (runeAt s q).1 < 0 then .inl q else if (runeAt s q).1 = 92 then (if h2 : q + (runeAt s q).2 < s.size then (if (runeAt s (q + (runeAt s q).2)).1 = 10 then .inl at_ else if (runeAt s (q + (runeAt s q).2)).1 < 0 then .inl (q + (runeAt s q).2) else quotD s 34 at_ (q + (runeAt s q).2 + (runeAt s (q + (runeAt s q).2)).2)) else .inl at_) else quotD s 34 at_ (q + (runeAt s q).2) by rw [quotD, dif_pos hq])
      by_cases hqq : byt s q = 34
      · have eq1 : (((s[q]'hq).toNat : Int) == 34) = true := beq_iff_eq.2 (by rw [hbq]; omega)
        have HE2 := Lib.hid (show quotD s 34 at_ q = .inr (q + 1) by rw [HE.out, if_pos hqq, if_neg (fun h => absurd h.1 (by decide))])
        clear hbq hqq hrb
        have c0 := block_cell HBk.out 0
        have c1 := block_cell HBk.out 1
        have c2 := block_cell HBk.out 2
        have f0 := block_free HBk.out 0
        have f1 := block_free HBk.out 1
        have f2 := block_free HBk.out 2
        go_wp2_with fail
        exact ret44 _ _ _ _ _ HBk.out rfl rfl ⟨by rw [Hat.out, HE2.out]; simp only [quoV, thV]; go_num, below_set3 (HBa.out.trans (HBr.out.mono HBa.out.size)) HBk.out (Nat.le_refl _) _ _ _⟩
      · have eq1 : (((s[q]'hq).toNat : Int) == 34) = false := beq_eq_false_iff_ne.2 (by rw [hbq]; omega)
        by_cases h10 : byt s q = 10
        · have HE2 := Lib.hid (show quotD s 34 at_ q = .inl at_ by rw [HE.out, if_neg hqq, if_pos h10])
          have e10 : (((s[q]'hq).toNat : Int) == 10) = true := beq_iff_eq.2 (by rw [hbq]; omega)
          clear hbq hqq hrb h10
          have c0 := block_cell HBk.out 0
          have c1 := block_cell HBk.out 1
          have c2 := block_cell HBk.out 2
          have f0 := block_free HBk.out 0
          have f1 := block_free HBk.out 1
          have f2 := block_free HBk.out 2
          go_wp2_with fail
          exact ret44 _ _ _ _ _ HBk.out rfl rfl ⟨by rw [Hat.out, HE2.out]; rfl, below_set3 (HBa.out.trans (HBr.out.mono HBa.out.size)) HBk.out (Nat.le_refl _) _ _ _⟩
        · have e10 : (((s[q]'hq).toNat : Int) == 10) = false := beq_eq_false_iff_ne.2 (by rw [hbq]; omega)
          have HE3 := Lib.hid (HE.out.trans (by rw [if_neg hqq, if_neg h10]))
          clear hbq hqq hrb h10
          by_cases h0 : (runeAt s q).1 < 0
          · have HE2 := Lib.hid (show quotD s 34 at_ q = .inl q by rw [HE3.out, if_pos h0])
            go_wp2_with fail
            refine (HR.out _).mono ?_
            rintro e w1 ⟨rfl, hB1⟩
            have HB := Lib.hid (HBr.out.trans (hB1.mono HBr.out.size))
            have HBk1 := Lib.hid ((HB.out.block w.heap.size Hlt.out).trans Hnew.out)
            clear hB1
            have c0 := block_cell HBk1.out 0
            have c1 := block_cell HBk1.out 1
            have c2 := block_cell HBk1.out 2
            have f0 := block_free HBk1.out 0
            have f1 := block_free HBk1.out 1
            have f2 := block_free HBk1.out 2
            go_wp2_with fail
            exact ret44 _ _ _ _ _ HBk1.out rfl rfl ⟨by rw [Hat.out, HE2.out]; rfl, below_set3 (HBa.out.trans (HB.out.mono HBa.out.size)) HBk1.out (Nat.le_refl _) _ _ _⟩
          · have HE4 := Lib.hid (HE3.out.trans (by rw [if_neg h0]))
            by_cases h92 : (runeAt s q).1 = 92
            · have e92 : ((runeAt s q).1 == 92) = true := beq_iff_eq.2 h92
              have HE5 := Lib.hid (HE4.out.trans (by rw [if_pos h92]))
              have ecast : ((q + (runeAt s q).2 : Nat) : Int) = (q : Int) + ((runeAt s q).2 : Int) := by omega
              have HR2 := Lib.hid (fun w1 => refRune_any s (q + (runeAt s q).2) w1 (by omega))
              rw [ecast] at HR2
              by_cases h2 : q + (runeAt s q).2 < s.size
              · have hr2 := runeAt_range s _ h2
                rw [rn_in h2] at HR2
                have HE6 := Lib.hid (HE5.out.trans (by rw [dif_pos h2]))
                have ek : (((runeAt s (q + (runeAt s q).2)).2 : Int) == 0) = false := beq_eq_false_iff_ne.2 (by omega)
                by_cases g10 : (runeAt s (q + (runeAt s q).2)).1 = 10
                · have HE2 := Lib.hid (show quotD s 34 at_ q = .inl at_ by rw [HE6.out, if_pos g10])
                  have eg10 : ((runeAt s (q + (runeAt s q).2)).1 == 10) = true := beq_iff_eq.2 g10
                  go_wp2_with fail
                  refine (HR.out _).mono ?_
                  rintro e w1 ⟨rfl, hB1⟩
                  have HB := Lib.hid (HBr.out.trans (hB1.mono HBr.out.size))
                  clear hB1
                  go_wp2_with fail
                  refine (HR2.out _).mono ?_
                  rintro e w2 ⟨rfl, hB2⟩
                  have HC := Lib.hid (HB.out.trans (hB2.mono HB.out.size))
                  have HBk1 := Lib.hid ((HC.out.block w.heap.size Hlt.out).trans Hnew.out)
                  clear hB2
                  have c0 := block_cell HBk1.out 0
                  have c1 := block_cell HBk1.out 1
                  have c2 := block_cell HBk1.out 2
                  have f0 := block_free HBk1.out 0
                  have f1 := block_free HBk1.out 1
                  have f2 := block_free HBk1.out 2
                  go_wp2_with fail
                  exact ret44 _ _ _ _ _ HBk1.out rfl rfl ⟨by rw [Hat.out, HE2.out]; rfl, below_set3 (HBa.out.trans (HC.out.mono HBa.out.size)) HBk1.out (Nat.le_refl _) _ _ _⟩
                · have HE7 := Lib.hid (HE6.out.trans (by rw [if_neg g10]))
                  have eg10 : ((runeAt s (q + (runeAt s q).2)).1 == 10) = false := beq_eq_false_iff_ne.2 g10
                  by_cases g0 : (runeAt s (q + (runeAt s q).2)).1 < 0
                  · have HE2 := Lib.hid (show quotD s 34 at_ q = .inl (q + (runeAt s q).2) by rw [HE7.out, if_pos g0])
                    go_wp2_with fail
                    refine (HR.out _).mono ?_
                    rintro e w1 ⟨rfl, hB1⟩
                    have HB := Lib.hid (HBr.out.trans (hB1.mono HBr.out.size))
                    clear hB1
                    go_wp2_with fail
                    refine (HR2.out _).mono ?_
                    rintro e w2 ⟨rfl, hB2⟩
                    have HC := Lib.hid (HB.out.trans (hB2.mono HB.out.size))
                    have HBk1 := Lib.hid ((HC.out.block w.heap.size Hlt.out).trans Hnew.out)
                    clear hB2
                    have c0 := block_cell HBk1.out 0
                    have c1 := block_cell HBk1.out 1
                    have c2 := block_cell HBk1.out 2
                    have f0 := block_free HBk1.out 0
                    have f1 := block_free HBk1.out 1
                    have f2 := block_free HBk1.out 2
                    go_wp2_with fail
                    exact ret44 _ _ _ _ _ HBk1.out rfl rfl ⟨by rw [Hat.out, HE2.out]; rfl, below_set3 (HBa.out.trans (HC.out.mono HBa.out.size)) HBk1.out (Nat.le_refl _) _ _ _⟩
                  · have HE2 := Lib.hid (show quotD s 34 at_ q = quotD s 34 at_ (q + (runeAt s q).2 + (runeAt s (q + (runeAt s q).2)).2) by rw [HE7.out, if_neg g0])
                    go_wp2_with fail
                    refine (HR.out _).mono ?_
                    rintro e w1 ⟨rfl, hB1⟩
                    have HB := Lib.hid (HBr.out.trans (hB1.mono HBr.out.size))
                    clear hB1
                    go_wp2_with fail
                    refine (HR2.out _).mono ?_
                    rintro e w2 ⟨rfl, hB2⟩
                    have HC := Lib.hid (HB.out.trans (hB2.mono HB.out.size))
                    clear hB2
                    go_wp2_with fail
                    go_roundg (gk - (runeAt s q).2 - (runeAt s (q + (runeAt s q).2)).2)
                    case measure => omega
                    case rel => exact ⟨q + (runeAt s q).2 + (runeAt s (q + (runeAt s q).2)).2, by omega, by omega, by go_num, Hat.out.trans HE2.out, HC.out⟩
              · rw [rn_out h2] at HR2
                have HE2 := Lib.hid (show quotD s 34 at_ q = .inl at_ by rw [HE5.out, dif_neg h2])
                go_wp2_with fail
                refine (HR.out _).mono ?_
                rintro e w1 ⟨rfl, hB1⟩
                have HB := Lib.hid (HBr.out.trans (hB1.mono HBr.out.size))
                clear hB1
                go_wp2_with fail
                refine (HR2.out _).mono ?_
                rintro e w2 ⟨rfl, hB2⟩
                have HC := Lib.hid (HB.out.trans (hB2.mono HB.out.size))
                have HBk1 := Lib.hid ((HC.out.block w.heap.size Hlt.out).trans Hnew.out)
                clear hB2
                have c0 := block_cell HBk1.out 0
                have c1 := block_cell HBk1.out 1
                have c2 := block_cell HBk1.out 2
                have f0 := block_free HBk1.out 0
                have f1 := block_free HBk1.out 1
                have f2 := block_free HBk1.out 2
                go_wp2_with fail
                exact ret44 _ _ _ _ _ HBk1.out rfl rfl ⟨by rw [Hat.out, HE2.out]; rfl, below_set3 (HBa.out.trans (HC.out.mono HBa.out.size)) HBk1.out (Nat.le_refl _) _ _ _⟩
            · have e92 : ((runeAt s q).1 == 92) = false := beq_eq_false_iff_ne.2 h92
              have HE2 := Lib.hid (show quotD s 34 at_ q = quotD s 34 at_ (q + (runeAt s q).2) by rw [HE4.out, if_neg h92])
              go_wp2_with fail
              refine (HR.out _).mono ?_
              rintro e w1 ⟨rfl, hB1⟩
              have HB := Lib.hid (HBr.out.trans (hB1.mono HBr.out.size))
              clear hB1
              go_wp2_with fail
              go_roundg (gk - (runeAt s q).2)
              case measure => omega
              case rel => exact ⟨q + (runeAt s q).2, by omega, by omega, by go_num, Hat.out.trans HE2.out, HB.out⟩
    · obtain rfl : q = s.size := by omega
      have HE2 := Lib.hid (show quotD s 34 at_ s.size = .inl at_ by rw [quotD, dif_neg hq])
      have c0 := block_cell HBk.out 0
      have c1 := block_cell HBk.out 1
      have c2 := block_cell HBk.out 2
      have f0 := block_free HBk.out 0
      have f1 := block_free HBk.out 1
      have f2 := block_free HBk.out 2
      go_wp2_with fail
      exact ret44 _ _ _ _ _ HBk.out rfl rfl ⟨by rw [Hat.out, HE2.out]; rfl, below_set3 (HBa.out.trans (HBr.out.mono HBa.out.size)) HBk.out (Nat.le_refl _) _ _ _⟩
set_option maxRecDepth 100000 in
set_option maxHeartbeats 4000000 in
theorem refQuote39_any (s : ByteArray) (at_ : Nat) (w : World) (hs : s.size ≤ 1048576) (ha : at_ < s.size) (hq0 : byt s at_ = 39) :
    Calls Tryz.prog 57 #[.string s, .int .i64 at_, .int .i64 3] w fun e w' => e = .returned (quoV at_ 3 (quotD s 39 at_ (at_ + 1))) ∧ Below w.heap.size w w' := by
  have haI : (at_ : Int) < (s.size : Int) := by omega
  have hb0 : (s[at_]'ha).toNat = 39 := by rw [byt_at3 s at_ ha]; exact hq0
  have hnew := heap_alloc_new w (.cells #[.int .i64 0, .int .i64 0, .int .i64 0] 67)
  have hBa := (Below.refl w.heap.size w).alloc (Nat.le_refl _) (.cells #[.int .i64 0, .int .i64 0, .int .i64 0] 67)
  have Hnew := Lib.hid hnew
  have HBa := Lib.hid hBa
  clear hnew hBa
  go_enter Tryz.func57, Tryz.ntmps57
  go_wp2_with fail
  generalize w.alloc (.cells #[.int .i64 0, .int .i64 0, .int .i64 0] 67) = wa at *
  have Hlt := Lib.hid (lt_of_block Hnew.out)
  clear hb0
  go_loopg [9] (s.size - (at_ + 1)) (fun g iv wr => ∃ q : Nat, at_ + 1 ≤ q ∧ q + g = s.size ∧ iv = .int .i64 q ∧ quotD s 39 at_ (at_ + 1) = quotD s 39 at_ q ∧ Below wa.heap.size wa wr)
  case atStart => exact ⟨at_ + 1, Nat.le_refl _, by omega, by go_num, rfl, Below.refl _ _⟩
  case round =>
    obtain ⟨q, haq, hqg, rfl, hE, hBr⟩ := hrel
    have HR := Lib.hid (fun w1 => refRune_any s q w1 (by omega))
    have HBr := Lib.hid hBr
    have Hat := Lib.hid hE
    have HBk := Lib.hid ((hBr.block w.heap.size Hlt.out).trans Hnew.out)
    clear hBr hE
    by_cases hq : q < s.size
    · have hqI : (q : Int) < (s.size : Int) := by omega
      have hbq := byt_at3 s q hq
      have hr := runeAt_range s q hq
      have hrb := rune_byte hq 10 (by omega) (by omega)
      rw [rn_in hq] at HR
      have HE := Lib.hid (show quotD s 39 at_ q = if byt s q = 39 then (if (39 = 39 ∧ q = at_ + 1) then .inl at_ else .inr (q + 1)) else if byt s q = 10 then .inl at_ else if (runeAt s q).1 < 0 then .inl q else if (runeAt s q).1 = 92 then (if h2 : q + (runeAt s q).2 < s.size then (if (runeAt s (q + (runeAt s q).2)).1 = 10 then .inl at_ else if (runeAt s (q + (runeAt s q).2)).1 < 0 then .inl (q + (runeAt s q).2) else quotD s 39 at_ (q + (runeAt s q).2 + (runeAt s (q + (runeAt s q).2)).2)) else .inl at_) else quotD s 39 at_ (q + (runeAt s q).2) by rw [quotD, dif_pos hq])
      by_cases hqq : byt s q = 39
      · have eq1 : (((s[q]'hq).toNat : Int) == 39) = true := beq_iff_eq.2 (by rw [hbq]; omega)
        by_cases h1 : q = at_ + 1
        · have HE2 := Lib.hid (show quotD s 39 at_ q = .inl at_ by rw [HE.out, if_pos hqq, if_pos ⟨rfl, h1⟩])
          have e1 : ((q : Int) == (at_ : Int) + 1) = true := beq_iff_eq.2 (by omega)
          clear hbq hqq hrb h1
          have c0 := block_cell HBk.out 0
          have c1 := block_cell HBk.out 1
          have c2 := block_cell HBk.out 2
          have f0 := block_free HBk.out 0
          have f1 := block_free HBk.out 1
          have f2 := block_free HBk.out 2
          go_wp2_with fail
          exact ret44 _ _ _ _ _ HBk.out rfl rfl ⟨by rw [Hat.out, HE2.out]; rfl, below_set3 (HBa.out.trans (HBr.out.mono HBa.out.size)) HBk.out (Nat.le_refl _) _ _ _⟩
        · have HE2 := Lib.hid (show quotD s 39 at_ q = .inr (q + 1) by rw [HE.out, if_pos hqq, if_neg (fun h => h1 h.2)])
          have e1 : ((q : Int) == (at_ : Int) + 1) = false := beq_eq_false_iff_ne.2 (by omega)
          clear hbq hqq hrb
          have c0 := block_cell HBk.out 0
          have c1 := block_cell HBk.out 1
          have c2 := block_cell HBk.out 2
          have f0 := block_free HBk.out 0
          have f1 := block_free HBk.out 1
          have f2 := block_free HBk.out 2
          go_wp2_with fail
          exact ret44 _ _ _ _ _ HBk.out rfl rfl ⟨by rw [Hat.out, HE2.out]; simp only [quoV, thV]; go_num, below_set3 (HBa.out.trans (HBr.out.mono HBa.out.size)) HBk.out (Nat.le_refl _) _ _ _⟩
      · have eq1 : (((s[q]'hq).toNat : Int) == 39) = false := beq_eq_false_iff_ne.2 (by rw [hbq]; omega)
        by_cases h10 : byt s q = 10
        · have HE2 := Lib.hid (show quotD s 39 at_ q = .inl at_ by rw [HE.out, if_neg hqq, if_pos h10])
          have e10 : (((s[q]'hq).toNat : Int) == 10) = true := beq_iff_eq.2 (by rw [hbq]; omega)
          clear hbq hqq hrb h10
          have c0 := block_cell HBk.out 0
          have c1 := block_cell HBk.out 1
          have c2 := block_cell HBk.out 2
          have f0 := block_free HBk.out 0
          have f1 := block_free HBk.out 1
          have f2 := block_free HBk.out 2
          go_wp2_with fail
          exact ret44 _ _ _ _ _ HBk.out rfl rfl ⟨by rw [Hat.out, HE2.out]; rfl, below_set3 (HBa.out.trans (HBr.out.mono HBa.out.size)) HBk.out (Nat.le_refl _) _ _ _⟩
        · have e10 : (((s[q]'hq).toNat : Int) == 10) = false := beq_eq_false_iff_ne.2 (by rw [hbq]; omega)
          have HE3 := Lib.hid (HE.out.trans (by rw [if_neg hqq, if_neg h10]))
          clear hbq hqq hrb h10
          by_cases h0 : (runeAt s q).1 < 0
          · have HE2 := Lib.hid (show quotD s 39 at_ q = .inl q by rw [HE3.out, if_pos h0])
            go_wp2_with fail
            refine (HR.out _).mono ?_
            rintro e w1 ⟨rfl, hB1⟩
            have HB := Lib.hid (HBr.out.trans (hB1.mono HBr.out.size))
            have HBk1 := Lib.hid ((HB.out.block w.heap.size Hlt.out).trans Hnew.out)
            clear hB1
            have c0 := block_cell HBk1.out 0
            have c1 := block_cell HBk1.out 1
            have c2 := block_cell HBk1.out 2
            have f0 := block_free HBk1.out 0
            have f1 := block_free HBk1.out 1
            have f2 := block_free HBk1.out 2
            go_wp2_with fail
            exact ret44 _ _ _ _ _ HBk1.out rfl rfl ⟨by rw [Hat.out, HE2.out]; rfl, below_set3 (HBa.out.trans (HB.out.mono HBa.out.size)) HBk1.out (Nat.le_refl _) _ _ _⟩
          · have HE4 := Lib.hid (HE3.out.trans (by rw [if_neg h0]))
            by_cases h92 : (runeAt s q).1 = 92
            · have e92 : ((runeAt s q).1 == 92) = true := beq_iff_eq.2 h92
              have HE5 := Lib.hid (HE4.out.trans (by rw [if_pos h92]))
              have ecast : ((q + (runeAt s q).2 : Nat) : Int) = (q : Int) + ((runeAt s q).2 : Int) := by omega
              have HR2 := Lib.hid (fun w1 => refRune_any s (q + (runeAt s q).2) w1 (by omega))
              rw [ecast] at HR2
              by_cases h2 : q + (runeAt s q).2 < s.size
              · have hr2 := runeAt_range s _ h2
                rw [rn_in h2] at HR2
                have HE6 := Lib.hid (HE5.out.trans (by rw [dif_pos h2]))
                have ek : (((runeAt s (q + (runeAt s q).2)).2 : Int) == 0) = false := beq_eq_false_iff_ne.2 (by omega)
                by_cases g10 : (runeAt s (q + (runeAt s q).2)).1 = 10
                · have HE2 := Lib.hid (show quotD s 39 at_ q = .inl at_ by rw [HE6.out, if_pos g10])
                  have eg10 : ((runeAt s (q + (runeAt s q).2)).1 == 10) = true := beq_iff_eq.2 g10
                  go_wp2_with fail
                  refine (HR.out _).mono ?_
                  rintro e w1 ⟨rfl, hB1⟩
                  have HB := Lib.hid (HBr.out.trans (hB1.mono HBr.out.size))
                  clear hB1
                  go_wp2_with fail
                  refine (HR2.out _).mono ?_
                  rintro e w2 ⟨rfl, hB2⟩
                  have HC := Lib.hid (HB.out.trans (hB2.mono HB.out.size))
                  have HBk1 := Lib.hid ((HC.out.block w.heap.size Hlt.out).trans Hnew.out)
                  clear hB2
                  have c0 := block_cell HBk1.out 0
                  have c1 := block_cell HBk1.out 1
                  have c2 := block_cell HBk1.out 2
                  have f0 := block_free HBk1.out 0
                  have f1 := block_free HBk1.out 1
                  have f2 := block_free HBk1.out 2
                  go_wp2_with fail
                  exact ret44 _ _ _ _ _ HBk1.out rfl rfl ⟨by rw [Hat.out, HE2.out]; rfl, below_set3 (HBa.out.trans (HC.out.mono HBa.out.size)) HBk1.out (Nat.le_refl _) _ _ _⟩
                · have HE7 := Lib.hid (HE6.out.trans (by rw [if_neg g10]))
                  have eg10 : ((runeAt s (q + (runeAt s q).2)).1 == 10) = false := beq_eq_false_iff_ne.2 g10
                  by_cases g0 : (runeAt s (q + (runeAt s q).2)).1 < 0
                  · have HE2 := Lib.hid (show quotD s 39 at_ q = .inl (q + (runeAt s q).2) by rw [HE7.out, if_pos g0])
                    go_wp2_with fail
                    refine (HR.out _).mono ?_
                    rintro e w1 ⟨rfl, hB1⟩
                    have HB := Lib.hid (HBr.out.trans (hB1.mono HBr.out.size))
                    clear hB1
                    go_wp2_with fail
                    refine (HR2.out _).mono ?_
                    rintro e w2 ⟨rfl, hB2⟩
                    have HC := Lib.hid (HB.out.trans (hB2.mono HB.out.size))
                    have HBk1 := Lib.hid ((HC.out.block w.heap.size Hlt.out).trans Hnew.out)
                    clear hB2
                    have c0 := block_cell HBk1.out 0
                    have c1 := block_cell HBk1.out 1
                    have c2 := block_cell HBk1.out 2
                    have f0 := block_free HBk1.out 0
                    have f1 := block_free HBk1.out 1
                    have f2 := block_free HBk1.out 2
                    go_wp2_with fail
                    exact ret44 _ _ _ _ _ HBk1.out rfl rfl ⟨by rw [Hat.out, HE2.out]; rfl, below_set3 (HBa.out.trans (HC.out.mono HBa.out.size)) HBk1.out (Nat.le_refl _) _ _ _⟩
                  · have HE2 := Lib.hid (show quotD s 39 at_ q = quotD s 39 at_ (q + (runeAt s q).2 + (runeAt s (q + (runeAt s q).2)).2) by rw [HE7.out, if_neg g0])
                    go_wp2_with fail
                    refine (HR.out _).mono ?_
                    rintro e w1 ⟨rfl, hB1⟩
                    have HB := Lib.hid (HBr.out.trans (hB1.mono HBr.out.size))
                    clear hB1
                    go_wp2_with fail
                    refine (HR2.out _).mono ?_
                    rintro e w2 ⟨rfl, hB2⟩
                    have HC := Lib.hid (HB.out.trans (hB2.mono HB.out.size))
                    clear hB2
                    go_wp2_with fail
                    go_roundg (gk - (runeAt s q).2 - (runeAt s (q + (runeAt s q).2)).2)
                    case measure => omega
                    case rel => exact ⟨q + (runeAt s q).2 + (runeAt s (q + (runeAt s q).2)).2, by omega, by omega, by go_num, Hat.out.trans HE2.out, HC.out⟩
              · rw [rn_out h2] at HR2
                have HE2 := Lib.hid (show quotD s 39 at_ q = .inl at_ by rw [HE5.out, dif_neg h2])
                go_wp2_with fail
                refine (HR.out _).mono ?_
                rintro e w1 ⟨rfl, hB1⟩
                have HB := Lib.hid (HBr.out.trans (hB1.mono HBr.out.size))
                clear hB1
                go_wp2_with fail
                refine (HR2.out _).mono ?_
                rintro e w2 ⟨rfl, hB2⟩
                have HC := Lib.hid (HB.out.trans (hB2.mono HB.out.size))
                have HBk1 := Lib.hid ((HC.out.block w.heap.size Hlt.out).trans Hnew.out)
                clear hB2
                have c0 := block_cell HBk1.out 0
                have c1 := block_cell HBk1.out 1
                have c2 := block_cell HBk1.out 2
                have f0 := block_free HBk1.out 0
                have f1 := block_free HBk1.out 1
                have f2 := block_free HBk1.out 2
                go_wp2_with fail
                exact ret44 _ _ _ _ _ HBk1.out rfl rfl ⟨by rw [Hat.out, HE2.out]; rfl, below_set3 (HBa.out.trans (HC.out.mono HBa.out.size)) HBk1.out (Nat.le_refl _) _ _ _⟩
            · have e92 : ((runeAt s q).1 == 92) = false := beq_eq_false_iff_ne.2 h92
              have HE2 := Lib.hid (show quotD s 39 at_ q = quotD s 39 at_ (q + (runeAt s q).2) by rw [HE4.out, if_neg h92])
              go_wp2_with fail
              refine (HR.out _).mono ?_
              rintro e w1 ⟨rfl, hB1⟩
              have HB := Lib.hid (HBr.out.trans (hB1.mono HBr.out.size))
              clear hB1
              go_wp2_with fail
              go_roundg (gk - (runeAt s q).2)
              case measure => omega
              case rel => exact ⟨q + (runeAt s q).2, by omega, by omega, by go_num, Hat.out.trans HE2.out, HB.out⟩
    · obtain rfl : q = s.size := by omega
      have HE2 := Lib.hid (show quotD s 39 at_ s.size = .inl at_ by rw [quotD, dif_neg hq])
      have c0 := block_cell HBk.out 0
      have c1 := block_cell HBk.out 1
      have c2 := block_cell HBk.out 2
      have f0 := block_free HBk.out 0
      have f1 := block_free HBk.out 1
      have f2 := block_free HBk.out 2
      go_wp2_with fail
      exact ret44 _ _ _ _ _ HBk.out rfl rfl ⟨by rw [Hat.out, HE2.out]; rfl, below_set3 (HBa.out.trans (HBr.out.mono HBa.out.size)) HBk.out (Nat.le_refl _) _ _ _⟩
end Go.Proofs.YtejogobhnbjpdaaGreatDoor
namespace Go.Proofs.YtejogobhnbjpdaaGreatDoor
set_option linter.unusedVariables false
set_option linter.unusedSimpArgs false
open Go.ChangeShapes Go.WideShapes Go.ChangeAt Go.RowKit

set_option maxRecDepth 100000 in
set_option maxHeartbeats 4000000 in
theorem refRaw_any (s : ByteArray) (at_ : Nat) (w : World) (hs : s.size ≤ 1048576) (ha : at_ < s.size) (hq0 : byt s at_ = 96) :
    Calls Tryz.prog 57 #[.string s, .int .i64 at_, .int .i64 4] w fun e w' => e = .returned (quoV at_ 4 (closedR s [96] at_ (at_ + 1))) ∧ Below w.heap.size w w' := by
  have haI : (at_ : Int) < (s.size : Int) := by omega
  have hb0 : (s[at_]'ha).toNat = 96 := by rw [byt_at3 s at_ ha]; exact hq0
  have hnew := heap_alloc_new w (.cells #[.int .i64 0, .int .i64 0, .int .i64 0] 67)
  have hBa := (Below.refl w.heap.size w).alloc (Nat.le_refl _) (.cells #[.int .i64 0, .int .i64 0, .int .i64 0] 67)
  have Hnew := Lib.hid hnew
  have HBa := Lib.hid hBa
  clear hnew hBa
  go_enter Tryz.func57, Tryz.ntmps57
  go_wp2_with fail
  generalize w.alloc (.cells #[.int .i64 0, .int .i64 0, .int .i64 0] 67) = wa at *
  have Hlt := Lib.hid (lt_of_block Hnew.out)
  clear hb0
  go_loopg [9] (s.size - (at_ + 1)) (fun g iv wr => ∃ q : Nat, at_ + 1 ≤ q ∧ q + g = s.size ∧ iv = .int .i64 q ∧ closedR s [96] at_ (at_ + 1) = closedR s [96] at_ q ∧ Below wa.heap.size wa wr)
  case atStart => exact ⟨at_ + 1, Nat.le_refl _, by omega, by go_num, rfl, Below.refl _ _⟩
  case round =>
    obtain ⟨q, haq, hqg, rfl, hE, hBr⟩ := hrel
    have HR := Lib.hid (fun w1 => refRune_any s q w1 (by omega))
    have HBr := Lib.hid hBr
    have Hat := Lib.hid hE
    have HBk := Lib.hid ((hBr.block w.heap.size Hlt.out).trans Hnew.out)
    clear hBr hE
    by_cases hq : q < s.size
    · have hqI : (q : Int) < (s.size : Int) := by omega
      have hbq := byt_at3 s q hq
      have hr := runeAt_range s q hq
      rw [rn_in hq] at HR
      have hp := pre1 s q 96 (Nat.le_of_lt hq)
      have e96 : (96 : UInt8).toNat = 96 := rfl
      have HE := Lib.hid (show closedR s [96] at_ q = if (runeAt s q).1 < 0 then .inl q else if pre s q [96] = true then .inr (q + 1) else closedR s [96] at_ (q + (runeAt s q).2) by rw [closedR, dif_pos hq]; rfl)
      by_cases hqq : byt s q = 96
      · have eq1 : (((s[q]'hq).toNat : Int) == 96) = true := beq_iff_eq.2 (by rw [hbq]; omega)
        have hrl := (rune_byte hq 96 (by omega) (by omega)).2 hqq
        have HE2 := Lib.hid (show closedR s [96] at_ q = .inr (q + 1) by rw [HE.out, if_neg (by omega), if_pos (hp.2 ⟨hq, by omega⟩)])
        clear hbq hqq hrl hp e96
        have c0 := block_cell HBk.out 0
        have c1 := block_cell HBk.out 1
        have c2 := block_cell HBk.out 2
        have f0 := block_free HBk.out 0
        have f1 := block_free HBk.out 1
        have f2 := block_free HBk.out 2
        go_wp2_with fail
        exact ret44 _ _ _ _ _ HBk.out rfl rfl ⟨by rw [Hat.out, HE2.out]; simp only [quoV, thV]; go_num, below_set3 (HBa.out.trans (HBr.out.mono HBa.out.size)) HBk.out (Nat.le_refl _) _ _ _⟩
      · have eq1 : (((s[q]'hq).toNat : Int) == 96) = false := beq_eq_false_iff_ne.2 (by rw [hbq]; omega)
        have HE3 := Lib.hid (show closedR s [96] at_ q = if (runeAt s q).1 < 0 then .inl q else closedR s [96] at_ (q + (runeAt s q).2) by rw [HE.out, if_neg (fun h => hqq (by have := (hp.1 h).2; omega) : ¬ pre s q [96] = true)])
        clear hbq hqq hp e96
        by_cases h0 : (runeAt s q).1 < 0
        · have HE2 := Lib.hid (show closedR s [96] at_ q = .inl q by rw [HE3.out, if_pos h0])
          cases e10 : (((s[q]'hq).toNat : Int) == 10)
          all_goals
            go_wp2_with fail
            refine (HR.out _).mono ?_
            rintro e w1 ⟨rfl, hB1⟩
            have HB := Lib.hid (HBr.out.trans (hB1.mono HBr.out.size))
            have HBk1 := Lib.hid ((HB.out.block w.heap.size Hlt.out).trans Hnew.out)
            clear hB1
            have c0 := block_cell HBk1.out 0
            have c1 := block_cell HBk1.out 1
            have c2 := block_cell HBk1.out 2
            have f0 := block_free HBk1.out 0
            have f1 := block_free HBk1.out 1
            have f2 := block_free HBk1.out 2
            go_wp2_with fail
            exact ret44 _ _ _ _ _ HBk1.out rfl rfl ⟨by rw [Hat.out, HE2.out]; rfl, below_set3 (HBa.out.trans (HB.out.mono HBa.out.size)) HBk1.out (Nat.le_refl _) _ _ _⟩
        · have HE2 := Lib.hid (show closedR s [96] at_ q = closedR s [96] at_ (q + (runeAt s q).2) by rw [HE3.out, if_neg h0])
          cases e10 : (((s[q]'hq).toNat : Int) == 10)
          all_goals
            cases e92 : ((runeAt s q).1 == 92)
            all_goals
              go_wp2_with fail
              refine (HR.out _).mono ?_
              rintro e w1 ⟨rfl, hB1⟩
              have HB := Lib.hid (HBr.out.trans (hB1.mono HBr.out.size))
              clear hB1
              go_wp2_with fail
              go_roundg (gk - (runeAt s q).2)
              case measure => omega
              case rel => exact ⟨q + (runeAt s q).2, by omega, by omega, by go_num, Hat.out.trans HE2.out, HB.out⟩
    · obtain rfl : q = s.size := by omega
      have HE2 := Lib.hid (show closedR s [96] at_ s.size = .inl at_ by rw [closedR, dif_neg hq])
      have c0 := block_cell HBk.out 0
      have c1 := block_cell HBk.out 1
      have c2 := block_cell HBk.out 2
      have f0 := block_free HBk.out 0
      have f1 := block_free HBk.out 1
      have f2 := block_free HBk.out 2
      go_wp2_with fail
      exact ret44 _ _ _ _ _ HBk.out rfl rfl ⟨by rw [Hat.out, HE2.out]; rfl, below_set3 (HBa.out.trans (HBr.out.mono HBa.out.size)) HBk.out (Nat.le_refl _) _ _ _⟩
end Go.Proofs.YtejogobhnbjpdaaGreatDoor
namespace Go.Proofs.YtejogobhnbjpdaaGreatDoor
set_option linter.unusedVariables false
set_option linter.unusedSimpArgs false
open Go.ChangeShapes Go.WideShapes Go.ChangeAt Go.RowKit

def sgL : List ByteArray := [⟨#[43]⟩, ⟨#[45]⟩, ⟨#[42]⟩, ⟨#[47]⟩, ⟨#[37]⟩, ⟨#[38]⟩, ⟨#[124]⟩, ⟨#[94]⟩, ⟨#[60, 60]⟩, ⟨#[62, 62]⟩, ⟨#[38, 94]⟩, ⟨#[43, 61]⟩, ⟨#[45, 61]⟩, ⟨#[42, 61]⟩, ⟨#[47, 61]⟩, ⟨#[37, 61]⟩, ⟨#[38, 61]⟩, ⟨#[124, 61]⟩, ⟨#[94, 61]⟩, ⟨#[60, 60, 61]⟩, ⟨#[62, 62, 61]⟩, ⟨#[38, 94, 61]⟩, ⟨#[38, 38]⟩, ⟨#[124, 124]⟩, ⟨#[60, 45]⟩, ⟨#[43, 43]⟩, ⟨#[45, 45]⟩, ⟨#[61, 61]⟩, ⟨#[60]⟩, ⟨#[62]⟩, ⟨#[61]⟩, ⟨#[33]⟩, ⟨#[126]⟩, ⟨#[33, 61]⟩, ⟨#[60, 61]⟩, ⟨#[62, 61]⟩, ⟨#[58, 61]⟩, ⟨#[46, 46, 46]⟩, ⟨#[40]⟩, ⟨#[41]⟩, ⟨#[91]⟩, ⟨#[93]⟩, ⟨#[123]⟩, ⟨#[125]⟩, ⟨#[44]⟩, ⟨#[46]⟩, ⟨#[58]⟩]
theorem sgL_is : sgL.map (fun b => b.data.toList) = signs := rfl
theorem sgL_len : sgL.length = 47 := rfl
set_option maxRecDepth 100000 in
set_option maxHeartbeats 1000000 in
theorem refSigns_any (w : World) : Calls Tryz.prog 58 #[] w fun e w' => e = .returned (.slice (some ⟨w.heap.size, 0, none⟩) 47 47) ∧ (∀ (k : Nat) (y : ByteArray), sgL[k]? = some y → w'.cell? ⟨w.heap.size, k, none⟩ = some (.string y)) ∧ w.heap.size < w'.heap.size ∧ Below w.heap.size w w' := by
  have hblk := heap_alloc_new w (.cells #[.string ⟨#[43]⟩, .string ⟨#[45]⟩, .string ⟨#[42]⟩, .string ⟨#[47]⟩, .string ⟨#[37]⟩, .string ⟨#[38]⟩, .string ⟨#[124]⟩, .string ⟨#[94]⟩, .string ⟨#[60, 60]⟩, .string ⟨#[62, 62]⟩, .string ⟨#[38, 94]⟩, .string ⟨#[43, 61]⟩, .string ⟨#[45, 61]⟩, .string ⟨#[42, 61]⟩, .string ⟨#[47, 61]⟩, .string ⟨#[37, 61]⟩, .string ⟨#[38, 61]⟩, .string ⟨#[124, 61]⟩, .string ⟨#[94, 61]⟩, .string ⟨#[60, 60, 61]⟩, .string ⟨#[62, 62, 61]⟩, .string ⟨#[38, 94, 61]⟩, .string ⟨#[38, 38]⟩, .string ⟨#[124, 124]⟩, .string ⟨#[60, 45]⟩, .string ⟨#[43, 43]⟩, .string ⟨#[45, 45]⟩, .string ⟨#[61, 61]⟩, .string ⟨#[60]⟩, .string ⟨#[62]⟩, .string ⟨#[61]⟩, .string ⟨#[33]⟩, .string ⟨#[126]⟩, .string ⟨#[33, 61]⟩, .string ⟨#[60, 61]⟩, .string ⟨#[62, 61]⟩, .string ⟨#[58, 61]⟩, .string ⟨#[46, 46, 46]⟩, .string ⟨#[40]⟩, .string ⟨#[41]⟩, .string ⟨#[91]⟩, .string ⟨#[93]⟩, .string ⟨#[123]⟩, .string ⟨#[125]⟩, .string ⟨#[44]⟩, .string ⟨#[46]⟩, .string ⟨#[58]⟩] 9)
  have hB0 := (Below.refl w.heap.size w).alloc (Nat.le_refl _) (.cells #[.string ⟨#[43]⟩, .string ⟨#[45]⟩, .string ⟨#[42]⟩, .string ⟨#[47]⟩, .string ⟨#[37]⟩, .string ⟨#[38]⟩, .string ⟨#[124]⟩, .string ⟨#[94]⟩, .string ⟨#[60, 60]⟩, .string ⟨#[62, 62]⟩, .string ⟨#[38, 94]⟩, .string ⟨#[43, 61]⟩, .string ⟨#[45, 61]⟩, .string ⟨#[42, 61]⟩, .string ⟨#[47, 61]⟩, .string ⟨#[37, 61]⟩, .string ⟨#[38, 61]⟩, .string ⟨#[124, 61]⟩, .string ⟨#[94, 61]⟩, .string ⟨#[60, 60, 61]⟩, .string ⟨#[62, 62, 61]⟩, .string ⟨#[38, 94, 61]⟩, .string ⟨#[38, 38]⟩, .string ⟨#[124, 124]⟩, .string ⟨#[60, 45]⟩, .string ⟨#[43, 43]⟩, .string ⟨#[45, 45]⟩, .string ⟨#[61, 61]⟩, .string ⟨#[60]⟩, .string ⟨#[62]⟩, .string ⟨#[61]⟩, .string ⟨#[33]⟩, .string ⟨#[126]⟩, .string ⟨#[33, 61]⟩, .string ⟨#[60, 61]⟩, .string ⟨#[62, 61]⟩, .string ⟨#[58, 61]⟩, .string ⟨#[46, 46, 46]⟩, .string ⟨#[40]⟩, .string ⟨#[41]⟩, .string ⟨#[91]⟩, .string ⟨#[93]⟩, .string ⟨#[123]⟩, .string ⟨#[125]⟩, .string ⟨#[44]⟩, .string ⟨#[46]⟩, .string ⟨#[58]⟩] 9)
  have hlt := lt_of_block hblk
  have hc : ∀ (k : Nat) (y : ByteArray), sgL[k]? = some y → (w.alloc (.cells #[.string ⟨#[43]⟩, .string ⟨#[45]⟩, .string ⟨#[42]⟩, .string ⟨#[47]⟩, .string ⟨#[37]⟩, .string ⟨#[38]⟩, .string ⟨#[124]⟩, .string ⟨#[94]⟩, .string ⟨#[60, 60]⟩, .string ⟨#[62, 62]⟩, .string ⟨#[38, 94]⟩, .string ⟨#[43, 61]⟩, .string ⟨#[45, 61]⟩, .string ⟨#[42, 61]⟩, .string ⟨#[47, 61]⟩, .string ⟨#[37, 61]⟩, .string ⟨#[38, 61]⟩, .string ⟨#[124, 61]⟩, .string ⟨#[94, 61]⟩, .string ⟨#[60, 60, 61]⟩, .string ⟨#[62, 62, 61]⟩, .string ⟨#[38, 94, 61]⟩, .string ⟨#[38, 38]⟩, .string ⟨#[124, 124]⟩, .string ⟨#[60, 45]⟩, .string ⟨#[43, 43]⟩, .string ⟨#[45, 45]⟩, .string ⟨#[61, 61]⟩, .string ⟨#[60]⟩, .string ⟨#[62]⟩, .string ⟨#[61]⟩, .string ⟨#[33]⟩, .string ⟨#[126]⟩, .string ⟨#[33, 61]⟩, .string ⟨#[60, 61]⟩, .string ⟨#[62, 61]⟩, .string ⟨#[58, 61]⟩, .string ⟨#[46, 46, 46]⟩, .string ⟨#[40]⟩, .string ⟨#[41]⟩, .string ⟨#[91]⟩, .string ⟨#[93]⟩, .string ⟨#[123]⟩, .string ⟨#[125]⟩, .string ⟨#[44]⟩, .string ⟨#[46]⟩, .string ⟨#[58]⟩] 9)).cell? ⟨w.heap.size, k, none⟩ = some (.string y) := fun k y hy => by
    rw [block_cell hblk]
    have : (#[.string ⟨#[43]⟩, .string ⟨#[45]⟩, .string ⟨#[42]⟩, .string ⟨#[47]⟩, .string ⟨#[37]⟩, .string ⟨#[38]⟩, .string ⟨#[124]⟩, .string ⟨#[94]⟩, .string ⟨#[60, 60]⟩, .string ⟨#[62, 62]⟩, .string ⟨#[38, 94]⟩, .string ⟨#[43, 61]⟩, .string ⟨#[45, 61]⟩, .string ⟨#[42, 61]⟩, .string ⟨#[47, 61]⟩, .string ⟨#[37, 61]⟩, .string ⟨#[38, 61]⟩, .string ⟨#[124, 61]⟩, .string ⟨#[94, 61]⟩, .string ⟨#[60, 60, 61]⟩, .string ⟨#[62, 62, 61]⟩, .string ⟨#[38, 94, 61]⟩, .string ⟨#[38, 38]⟩, .string ⟨#[124, 124]⟩, .string ⟨#[60, 45]⟩, .string ⟨#[43, 43]⟩, .string ⟨#[45, 45]⟩, .string ⟨#[61, 61]⟩, .string ⟨#[60]⟩, .string ⟨#[62]⟩, .string ⟨#[61]⟩, .string ⟨#[33]⟩, .string ⟨#[126]⟩, .string ⟨#[33, 61]⟩, .string ⟨#[60, 61]⟩, .string ⟨#[62, 61]⟩, .string ⟨#[58, 61]⟩, .string ⟨#[46, 46, 46]⟩, .string ⟨#[40]⟩, .string ⟨#[41]⟩, .string ⟨#[91]⟩, .string ⟨#[93]⟩, .string ⟨#[123]⟩, .string ⟨#[125]⟩, .string ⟨#[44]⟩, .string ⟨#[46]⟩, .string ⟨#[58]⟩] : Array Value) = (sgL.map Value.string).toArray := rfl
    rw [this, List.getElem?_toArray, List.getElem?_map, hy]; rfl
  have HC := Lib.hid hc
  have HB0 := Lib.hid hB0
  have HLt := Lib.hid hlt
  clear hc hB0 hblk hlt
  go_enter Tryz.func58, Tryz.ntmps58
  go_wp2_with fail
  go_ret
  exact ⟨rfl, HC.out, HLt.out, HB0.out⟩
end Go.Proofs.YtejogobhnbjpdaaGreatDoor
namespace Go.Proofs.YtejogobhnbjpdaaGreatDoor
set_option linter.unusedVariables false
set_option linter.unusedSimpArgs false
open Go.ChangeShapes Go.WideShapes Go.ChangeAt Go.RowKit

theorem blkR_pos {r : Int} (h : blkR r = true) : 0 ≤ r := by have := of_decide_eq_true h; omega
theorem sign_neg {s : ByteArray} {q : Nat} (hq : q < s.size) (h : (runeAt s q).1 < 0) : signN s q = 0 := by
  have no : ∀ k, 0 < k → ¬ sgB s q k := fun k hk hs => by
    have hb := sg_byte hs (i := 0) hk
    rw [Nat.add_zero] at hb
    rw [rune_low hq rfl (by omega) (by omega)] at h
    have : ((byt s q : Nat) : Int) < 0 := h
    omega
  rcases signN_eq s q with ⟨a, _⟩ | ⟨_, a, _⟩ | ⟨_, _, a, _⟩ | ⟨_, _, _, e⟩
  · exact absurd a (no 3 (by omega))
  · exact absurd a (no 2 (by omega))
  · exact absurd a (no 1 (by omega))
  · exact e
theorem thing_neg {s : ByteArray} {q : Nat} (hq : q < s.size) (h : (runeAt s q).1 < 0) : thing s q = .bad q := by
  have hp : ∀ b : UInt8, ¬ pre s q [47, b] = true := fun b hp => by
    rw [pre_low hq hp (by decide) (by decide)] at h
    exact absurd h (by decide)
  rw [thing_eq, if_neg (by omega), if_neg (fun x => by have := blkR_pos x; omega), if_neg (hp _), if_neg (hp _), if_neg (fun x => by have := letR_pos x; omega),
    if_neg (fun x => by
      unfold digTest at x
      rcases Bool.or_eq_true_iff.1 x with x | x
      · have := digR_pos x; omega
      · have := of_decide_eq_true (Bool.and_eq_true_iff.1 x).1; omega),
    if_neg (by omega), if_neg (by omega), if_neg (by omega), if_neg (by omega), if_pos (sign_neg hq h)]
/-- A digit stands at a place just if its byte is one. -/
theorem dig_byte (s : ByteArray) (q : Nat) (h : q < s.size) : digR (rn s q).1 = digR (byt s q : Nat) := by
  rw [rn_in h]
  rcases (by omega : (byt s q = 0 ∨ 128 ≤ byt s q) ∨ (0 < byt s q ∧ byt s q < 128)) with hb | ⟨hb0, hb1⟩
  · have e : digR (byt s q : Nat) = false := by unfold digR; rw [decide_eq_false_iff_not]; omega
    rw [e]
    rcases rune_high h hb with h2 | h2 <;> (unfold digR; rw [decide_eq_false_iff_not]; omega)
  · rw [rune_low h rfl hb0 hb1]
theorem dig_out (s : ByteArray) (q : Nat) (h : ¬ q < s.size) : digR (rn s q).1 = false := by rw [rn_out h]; rfl
def nextV (s : ByteArray) (q : Nat) : Th → Value
  | .bad f => thV 7 0 f
  | .lf => thV (-2) 1 0
  | .blank => thV (-1) 1 0
  | .note e => thV (if hasLF s q e = true then -4 else -3) (e - q) 0
  | .tok k e => thV k (e - q) 0
theorem ret26 {R : Ending → World → Prop} {a : Act} (w : World) (g : Nat) (x y z : Value) (hg : w.heap[g]? = some (.cells #[.int .i64 0, .int .i64 0, .int .i64 0] 67 (0, 0)))
    (hp : a.tmps.getD 4 undef = .pointer (some ⟨g, 0, none⟩)) (hd : a.defers = []) (hR : R (.returned (.agg #[x, y, z])) (w.setRow g #[x, y, z])) :
    bodyPost Tryz.prog Tryz.f29 R .ret a (((w.setCell ⟨g, 0, none⟩ x).setCell ⟨g, 1, none⟩ y).setCell ⟨g, 2, none⟩ z) := by
  rw [set3 w g _ _ _ x y z _ _ hg]
  exact bodyPost_ret (results_cell_row (fr := (0, 0)) rfl _ _ g 67 _ _ hp (setRow_heap _ _ _ _ _ _ hg) Tryz.underlying67 rfl size49) hd hR
theorem sgL_get {k : Nat} {y : ByteArray} (h : sgL[k]? = some y) : signs[k]? = some y.data.toList ∧ y.size ≤ 3 := by
  have e : signs[k]? = some y.data.toList := by rw [← sgL_is, List.getElem?_map, h]; rfl
  refine ⟨e, ?_⟩
  have := (signs_len _ (List.mem_of_getElem? e)).2
  rw [Lib.size_eq]; exact this
def bestK (s : ByteArray) (q k : Nat) : Nat := (signs.take k).foldl (bestF s q) 0
theorem best_step {s : ByteArray} {q k : Nat} {y : ByteArray} (h : sgL[k]? = some y) : bestK s q (k + 1) = if (pre s q y.data.toList && decide (bestK s q k < y.size)) = true then y.size else bestK s q k := by
  unfold bestK
  rw [List.take_add_one, (sgL_get h).1, List.foldl_append, Lib.size_eq]
  rfl
theorem best_bound (s : ByteArray) (q : Nat) : ∀ k, k ≤ 47 → bestK s q k ≤ 3
  | 0, _ => by unfold bestK; simp
  | k + 1, h => by
    obtain ⟨y, hy⟩ : ∃ y, sgL[k]? = some y := ⟨_, List.getElem?_eq_getElem (by rw [sgL_len]; omega)⟩
    rw [best_step hy]
    split
    · exact (sgL_get hy).2
    · exact best_bound s q k (by omega)
theorem best_all {s : ByteArray} {q : Nat} (hq : q ≤ s.size) : bestK s q 47 = signN s q := by
  rw [← best_sign hq]; rfl
set_option maxRecDepth 100000 in
set_option maxHeartbeats 8000000 in
theorem next26_any (s : ByteArray) (at_ : Nat) (w : World) (hs : s.size ≤ 1048576) (ha : at_ < s.size) :
    Calls Tryz.prog 29 #[.string s, .int .i64 at_] w fun e w' => e = .returned (nextV s at_ (thing s at_)) ∧ Below w.heap.size w w' := by
  have haI : (at_ : Int) < (s.size : Int) := by omega
  have hle : at_ ≤ s.size := by omega
  have hrb := runeAt_bounds s at_
  have HR := Lib.hid (fun w1 => refRune_any s at_ w1 (by omega))
  rw [rn_in ha] at HR
  have Hth := Lib.hid (thing_eq s at_)
  have HrS := Lib.hid (rune_byte ha)
  have Hneg := Lib.hid (thing_neg ha)
  have HP1 := Lib.hid (fun w1 => begins_any s ⟨#[47, 47]⟩ at_ w1 hs (by decide) hle)
  have HP2 := Lib.hid (fun w1 => begins_any s ⟨#[47, 42]⟩ at_ w1 hs (by decide) hle)
  obtain ⟨r, hrr⟩ : ∃ r, r = (runeAt s at_).1 := ⟨_, rfl⟩
  obtain ⟨n, hnn⟩ : ∃ n, n = (runeAt s at_).2 := ⟨_, rfl⟩
  rw [← hrr, ← hnn] at HR
  rw [← hrr] at Hth hrb HrS Hneg
  clear hrr
  have HBL := Lib.hid (fun w1 => refBlank_any r w1)
  have HLT := Lib.hid (fun w1 => refLetter_any r w1)
  have HDT := Lib.hid (fun w1 => refDigit_any r w1)
  have hnew := heap_alloc_new w (.cells #[.int .i64 0, .int .i64 0, .int .i64 0] 67)
  have hBa := (Below.refl w.heap.size w).alloc (Nat.le_refl _) (.cells #[.int .i64 0, .int .i64 0, .int .i64 0] 67)
  have Hnew := Lib.hid hnew
  have HBa := Lib.hid hBa
  have hnb : n ≤ 1048576 := by have := runeAt_range s at_ ha; omega
  clear hnew hBa hnn
  go_enter Tryz.func29, Tryz.ntmps29
  go_wp2_with fail
  generalize w.alloc (.cells #[.int .i64 0, .int .i64 0, .int .i64 0] 67) = wa at *
  have Hlt := Lib.hid (lt_of_block Hnew.out)
  go_wp2_with fail
  refine (HR.out _).mono ?_
  rintro e1 w1 ⟨rfl, hB1⟩
  have HB := Lib.hid hB1
  clear hB1
  by_cases t0 : r < 0
  · have Hth2 := Lib.hid (Hneg.out t0)
    have HBk1 := Lib.hid ((HB.out.block w.heap.size Hlt.out).trans Hnew.out)
    have c0 := block_cell HBk1.out 0
    have c1 := block_cell HBk1.out 1
    have c2 := block_cell HBk1.out 2
    have f0 := block_free HBk1.out 0
    have f1 := block_free HBk1.out 1
    have f2 := block_free HBk1.out 2
    go_wp2_with fail
    exact ret26 _ _ _ _ _ HBk1.out rfl rfl ⟨by rw [Hth2.out]; rfl, below_set3 (HBa.out.trans (HB.out.mono HBa.out.size)) HBk1.out (Nat.le_refl _) _ _ _⟩
  by_cases t1 : r = 10
  · have Hth2 := Lib.hid (show thing s at_ = .lf by rw [Hth.out, if_pos t1])
    clear hrb
    subst t1
    have HBk1 := Lib.hid ((HB.out.block w.heap.size Hlt.out).trans Hnew.out)
    have c0 := block_cell HBk1.out 0
    have c1 := block_cell HBk1.out 1
    have c2 := block_cell HBk1.out 2
    have f0 := block_free HBk1.out 0
    have f1 := block_free HBk1.out 1
    have f2 := block_free HBk1.out 2
    go_wp2_with fail
    exact ret26 _ _ _ _ _ HBk1.out rfl rfl ⟨by rw [Hth2.out]; rfl, below_set3 (HBa.out.trans (HB.out.mono HBa.out.size)) HBk1.out (Nat.le_refl _) _ _ _⟩
  have u1 : (r == 10) = false := beq_eq_false_iff_ne.2 t1
  by_cases t2 : blkR r = true
  · have Hth2 := Lib.hid (show thing s at_ = .blank by rw [Hth.out, if_neg t1, if_pos t2])
    rw [t2] at HBL
    clear t2
    go_wp2_with fail
    refine (HBL.out _).mono ?_
    rintro e1 w1 ⟨rfl, rfl⟩
    have HBk1 := Lib.hid ((HB.out.block w.heap.size Hlt.out).trans Hnew.out)
    have c0 := block_cell HBk1.out 0
    have c1 := block_cell HBk1.out 1
    have c2 := block_cell HBk1.out 2
    have f0 := block_free HBk1.out 0
    have f1 := block_free HBk1.out 1
    have f2 := block_free HBk1.out 2
    go_wp2_with fail
    exact ret26 _ _ _ _ _ HBk1.out rfl rfl ⟨by rw [Hth2.out]; rfl, below_set3 (HBa.out.trans (HB.out.mono HBa.out.size)) HBk1.out (Nat.le_refl _) _ _ _⟩
  have Ht2 := Lib.hid (show ¬ blkR r = true from t2)
  rw [Bool.eq_false_iff.2 t2] at HBL
  clear t2
  go_wp2_with fail
  refine (HBL.out _).mono ?_
  rintro e1 w1 ⟨rfl, rfl⟩
  clear HBL
  by_cases t3 : pre s at_ [47, 47] = true
  · have HPt := Lib.hid t3
    rw [show pre s at_ (ByteArray.mk #[47, 47]).data.toList = true from t3] at HP1
    go_wp2_with fail
    refine (HP1.out _).mono ?_
    rintro e1 w1 ⟨rfl, rfl⟩
    cases hl : lineR s at_ with
    | inl f =>
      have Hth2 := Lib.hid (show thing s at_ = .bad f by rw [Hth.out, if_neg t1, if_neg Ht2.out, if_pos t3, hl]; rfl)
      have HK : Hid (∀ w1, Calls Tryz.prog 52 #[.string s, .int .i64 at_] w1 fun e' w' => e' = .returned (.agg #[.int .i64 (7), .int .i64 (0), .int .i64 ((f : Nat))]) ∧ Below w1.heap.size w1 w') := Lib.hid (fun w1 => (refLine_any s at_ w1 hs hle t3).mono (fun e2 w2 hh => ⟨by rw [hh.1, hl]; rfl, hh.2⟩))
      clear hl
      go_wp2_with fail
      refine (HK.out _).mono ?_
      rintro e1 w1 ⟨rfl, hB1⟩
      have HB := Lib.hid (HB.out.trans (hB1.mono HB.out.size))
      clear hB1
      have HBk1 := Lib.hid ((HB.out.block w.heap.size Hlt.out).trans Hnew.out)
      have c0 := block_cell HBk1.out 0
      have c1 := block_cell HBk1.out 1
      have c2 := block_cell HBk1.out 2
      have f0 := block_free HBk1.out 0
      have f1 := block_free HBk1.out 1
      have f2 := block_free HBk1.out 2
      go_wp2_with fail
      exact ret26 _ _ _ _ _ HBk1.out rfl rfl ⟨by rw [Hth2.out]; rfl, below_set3 (HBa.out.trans (HB.out.mono HBa.out.size)) HBk1.out (Nat.le_refl _) _ _ _⟩
    | inr e =>
      have Hth2 := Lib.hid (show thing s at_ = .note e by rw [Hth.out, if_neg t1, if_neg Ht2.out, if_pos t3, hl]; rfl)
      have Hlf := Lib.hid (line_no_lf hle hl)
      have HK : Hid (∀ w1, Calls Tryz.prog 52 #[.string s, .int .i64 at_] w1 fun e' w' => e' = .returned (.agg #[.int .i64 (-3), .int .i64 ((e - at_ : Nat)), .int .i64 (0)]) ∧ Below w1.heap.size w1 w') := Lib.hid (fun w1 => (refLine_any s at_ w1 hs hle t3).mono (fun e2 w2 hh => ⟨by rw [hh.1, hl]; rfl, hh.2⟩))
      clear hl
      go_wp2_with fail
      refine (HK.out _).mono ?_
      rintro e1 w1 ⟨rfl, hB1⟩
      have HB := Lib.hid (HB.out.trans (hB1.mono HB.out.size))
      clear hB1
      have HBk1 := Lib.hid ((HB.out.block w.heap.size Hlt.out).trans Hnew.out)
      have c0 := block_cell HBk1.out 0
      have c1 := block_cell HBk1.out 1
      have c2 := block_cell HBk1.out 2
      have f0 := block_free HBk1.out 0
      have f1 := block_free HBk1.out 1
      have f2 := block_free HBk1.out 2
      go_wp2_with fail
      exact ret26 _ _ _ _ _ HBk1.out rfl rfl ⟨by rw [Hth2.out]; simp only [nextV, Hlf.out]; rfl, below_set3 (HBa.out.trans (HB.out.mono HBa.out.size)) HBk1.out (Nat.le_refl _) _ _ _⟩
  have Ht3 := Lib.hid (show ¬ pre s at_ [47, 47] = true from t3)
  rw [show pre s at_ (ByteArray.mk #[47, 47]).data.toList = false from Bool.eq_false_iff.2 t3] at HP1
  clear t3
  by_cases t4 : pre s at_ [47, 42] = true
  · rw [show pre s at_ (ByteArray.mk #[47, 42]).data.toList = true from t4] at HP2
    go_wp2_with fail
    refine (HP1.out _).mono ?_
    rintro e1 w1 ⟨rfl, rfl⟩
    go_wp2_with fail
    refine (HP2.out _).mono ?_
    rintro e1 w1 ⟨rfl, rfl⟩
    cases hl : closedR s [42, 47] at_ (at_ + 2) with
    | inl f =>
      have Hth2 := Lib.hid (show thing s at_ = .bad f by rw [Hth.out, if_neg t1, if_neg Ht2.out, if_neg Ht3.out, if_pos t4, hl]; rfl)
      have HK : Hid (∀ w1, Calls Tryz.prog 52 #[.string s, .int .i64 at_] w1 fun e' w' => e' = .returned (.agg #[.int .i64 (7), .int .i64 (0), .int .i64 ((f : Nat))]) ∧ Below w1.heap.size w1 w') := Lib.hid (fun w1 => (refMany_any s at_ w1 hs hle t4).mono (fun e2 w2 hh => ⟨by rw [hh.1, hl]; rfl, hh.2⟩))
      clear hl
      go_wp2_with fail
      refine (HK.out _).mono ?_
      rintro e1 w1 ⟨rfl, hB1⟩
      have HB := Lib.hid (HB.out.trans (hB1.mono HB.out.size))
      clear hB1
      have HBk1 := Lib.hid ((HB.out.block w.heap.size Hlt.out).trans Hnew.out)
      have c0 := block_cell HBk1.out 0
      have c1 := block_cell HBk1.out 1
      have c2 := block_cell HBk1.out 2
      have f0 := block_free HBk1.out 0
      have f1 := block_free HBk1.out 1
      have f2 := block_free HBk1.out 2
      go_wp2_with fail
      exact ret26 _ _ _ _ _ HBk1.out rfl rfl ⟨by rw [Hth2.out]; rfl, below_set3 (HBa.out.trans (HB.out.mono HBa.out.size)) HBk1.out (Nat.le_refl _) _ _ _⟩
    | inr e =>
      have Hth2 := Lib.hid (show thing s at_ = .note e by rw [Hth.out, if_neg t1, if_neg Ht2.out, if_neg Ht3.out, if_pos t4, hl]; rfl)
      cases hlf : hasLF s at_ e with
      | true =>
        have Hlf := Lib.hid hlf
        have HK : Hid (∀ w1, Calls Tryz.prog 52 #[.string s, .int .i64 at_] w1 fun e' w' => e' = .returned (.agg #[.int .i64 (-4), .int .i64 ((e - at_ : Nat)), .int .i64 (0)]) ∧ Below w1.heap.size w1 w') := Lib.hid (fun w1 => (refMany_any s at_ w1 hs hle t4).mono (fun e2 w2 hh => ⟨by rw [hh.1, hl]; simp only [manyV, hlf]; rfl, hh.2⟩))
        clear hl hlf
        go_wp2_with fail
        refine (HK.out _).mono ?_
        rintro e1 w1 ⟨rfl, hB1⟩
        have HB := Lib.hid (HB.out.trans (hB1.mono HB.out.size))
        clear hB1
        have HBk1 := Lib.hid ((HB.out.block w.heap.size Hlt.out).trans Hnew.out)
        have c0 := block_cell HBk1.out 0
        have c1 := block_cell HBk1.out 1
        have c2 := block_cell HBk1.out 2
        have f0 := block_free HBk1.out 0
        have f1 := block_free HBk1.out 1
        have f2 := block_free HBk1.out 2
        go_wp2_with fail
        exact ret26 _ _ _ _ _ HBk1.out rfl rfl ⟨by rw [Hth2.out]; simp only [nextV, Hlf.out]; rfl, below_set3 (HBa.out.trans (HB.out.mono HBa.out.size)) HBk1.out (Nat.le_refl _) _ _ _⟩
      | false =>
        have Hlf := Lib.hid hlf
        have HK : Hid (∀ w1, Calls Tryz.prog 52 #[.string s, .int .i64 at_] w1 fun e' w' => e' = .returned (.agg #[.int .i64 (-3), .int .i64 ((e - at_ : Nat)), .int .i64 (0)]) ∧ Below w1.heap.size w1 w') := Lib.hid (fun w1 => (refMany_any s at_ w1 hs hle t4).mono (fun e2 w2 hh => ⟨by rw [hh.1, hl]; simp only [manyV, hlf]; rfl, hh.2⟩))
        clear hl hlf
        go_wp2_with fail
        refine (HK.out _).mono ?_
        rintro e1 w1 ⟨rfl, hB1⟩
        have HB := Lib.hid (HB.out.trans (hB1.mono HB.out.size))
        clear hB1
        have HBk1 := Lib.hid ((HB.out.block w.heap.size Hlt.out).trans Hnew.out)
        have c0 := block_cell HBk1.out 0
        have c1 := block_cell HBk1.out 1
        have c2 := block_cell HBk1.out 2
        have f0 := block_free HBk1.out 0
        have f1 := block_free HBk1.out 1
        have f2 := block_free HBk1.out 2
        go_wp2_with fail
        exact ret26 _ _ _ _ _ HBk1.out rfl rfl ⟨by rw [Hth2.out]; simp only [nextV, Hlf.out]; rfl, below_set3 (HBa.out.trans (HB.out.mono HBa.out.size)) HBk1.out (Nat.le_refl _) _ _ _⟩
  have Ht4 := Lib.hid (show ¬ pre s at_ [47, 42] = true from t4)
  rw [show pre s at_ (ByteArray.mk #[47, 42]).data.toList = false from Bool.eq_false_iff.2 t4] at HP2
  clear t4
  go_wp2_with fail
  refine (HP1.out _).mono ?_
  rintro e1 w1 ⟨rfl, rfl⟩
  go_wp2_with fail
  refine (HP2.out _).mono ?_
  rintro e1 w1 ⟨rfl, rfl⟩
  clear HP1 HP2
  by_cases t5 : letR r = true
  · have Hth2 := Lib.hid (show thing s at_ = .tok 1 (identE s at_) by rw [Hth.out, if_neg t1, if_neg Ht2.out, if_neg Ht3.out, if_neg Ht4.out, if_pos t5])
    rw [t5] at HLT
    clear t5
    go_wp2_with fail
    refine (HLT.out _).mono ?_
    rintro e1 w1 ⟨rfl, rfl⟩
    have HK := Lib.hid (fun w1 => name_any s at_ w1 hs hle)
    go_wp2_with fail
    refine (HK.out _).mono ?_
    rintro e1 w1 ⟨rfl, hB1⟩
    have HB := Lib.hid (HB.out.trans (hB1.mono HB.out.size))
    clear hB1
    have HBk1 := Lib.hid ((HB.out.block w.heap.size Hlt.out).trans Hnew.out)
    have c0 := block_cell HBk1.out 0
    have c1 := block_cell HBk1.out 1
    have c2 := block_cell HBk1.out 2
    have f0 := block_free HBk1.out 0
    have f1 := block_free HBk1.out 1
    have f2 := block_free HBk1.out 2
    go_wp2_with fail
    exact ret26 _ _ _ _ _ HBk1.out rfl rfl ⟨by rw [Hth2.out]; rfl, below_set3 (HBa.out.trans (HB.out.mono HBa.out.size)) HBk1.out (Nat.le_refl _) _ _ _⟩
  have Ht5 := Lib.hid (show ¬ letR r = true from t5)
  rw [Bool.eq_false_iff.2 t5] at HLT
  clear t5
  go_wp2_with fail
  refine (HLT.out _).mono ?_
  rintro e1 w1 ⟨rfl, rfl⟩
  clear HLT
  have HNth := Lib.hid (show digTest s at_ r = true → thing s at_ = .tok 2 (numE s (hexP s at_) (at_ + 1)) from fun t6 => by rw [Hth.out, if_neg t1, if_neg Ht2.out, if_neg Ht3.out, if_neg Ht4.out, if_neg Ht5.out, if_pos t6])
  by_cases t6 : digR r = true
  · have Hth2 := Lib.hid (HNth.out (by unfold digTest; rw [t6]; rfl))
    have hd : byt s at_ = 46 ∨ (48 ≤ byt s at_ ∧ byt s at_ ≤ 57) := by
      have h2 := of_decide_eq_true t6
      obtain ⟨c, hc⟩ : ∃ c : Nat, r = (c : Int) := ⟨r.toNat, by omega⟩
      have := (HrS.out c (by omega) (by omega)).1 hc
      omega
    have Hd := Lib.hid hd
    rw [t6] at HDT
    clear t6 hd
    go_wp2_with fail
    refine (HDT.out _).mono ?_
    rintro e1 w1 ⟨rfl, rfl⟩
    have HK := Lib.hid (fun w1 => refNumber_any s at_ w1 hs ha Hd.out)
    go_wp2_with fail
    refine (HK.out _).mono ?_
    rintro e1 w1 ⟨rfl, rfl⟩
    have HBk1 := Lib.hid ((HB.out.block w.heap.size Hlt.out).trans Hnew.out)
    have c0 := block_cell HBk1.out 0
    have c1 := block_cell HBk1.out 1
    have c2 := block_cell HBk1.out 2
    have f0 := block_free HBk1.out 0
    have f1 := block_free HBk1.out 1
    have f2 := block_free HBk1.out 2
    go_wp2_with fail
    exact ret26 _ _ _ _ _ HBk1.out rfl rfl ⟨by rw [Hth2.out]; rfl, below_set3 (HBa.out.trans (HB.out.mono HBa.out.size)) HBk1.out (Nat.le_refl _) _ _ _⟩
  have t6f := Bool.eq_false_iff.2 t6
  rw [t6f] at HDT
  by_cases t7 : r = 46
  · have hb46 := (HrS.out 46 (by omega) (by omega)).1 t7
    have Hd := Lib.hid (show byt s at_ = 46 ∨ (48 ≤ byt s at_ ∧ byt s at_ ≤ 57) from .inl hb46)
    clear hb46
    by_cases t7b : at_ + 1 < s.size
    · have haJ : (at_ : Int) < (s.size : Int) - 1 := by omega
      have haK : (at_ : Int) + 1 < (s.size : Int) := by omega
      have hdb := dig_byte s (at_ + 1) t7b
      have htn : ((at_ : Int) + 1).toNat = at_ + 1 := by omega
      have hb1 := byt_at3 s (at_ + 1) t7b
      have HD2 := Lib.hid (fun w1 => refDigit_any (((s[at_ + 1]'t7b).toNat : Nat) : Int) w1)
      rw [hb1] at HD2
      have hbb : (s[at_ + 1]'t7b).toNat ≤ 255 := by have := (s[at_ + 1]'t7b).toNat_lt; omega
      cases hdg : digR (byt s (at_ + 1) : Nat) with
      | true =>
        have Hth2 := Lib.hid (HNth.out (by unfold digTest; rw [hdb, hdg, t7]; rfl))
        rw [hdg] at HD2
        rw [← hb1] at HD2
        clear hdg t6 t6f HNth hdb hb1 hrb
        subst t7
        go_wp2_with fail
        refine (HDT.out _).mono ?_
        rintro e1 w1 ⟨rfl, rfl⟩
        go_wp2_with fail
        refine (HD2.out _).mono ?_
        rintro e1 w1 ⟨rfl, rfl⟩
        have HK := Lib.hid (fun w1 => refNumber_any s at_ w1 hs ha Hd.out)
        go_wp2_with fail
        refine (HK.out _).mono ?_
        rintro e1 w1 ⟨rfl, rfl⟩
        have HBk1 := Lib.hid ((HB.out.block w.heap.size Hlt.out).trans Hnew.out)
        have c0 := block_cell HBk1.out 0
        have c1 := block_cell HBk1.out 1
        have c2 := block_cell HBk1.out 2
        have f0 := block_free HBk1.out 0
        have f1 := block_free HBk1.out 1
        have f2 := block_free HBk1.out 2
        go_wp2_with fail
        exact ret26 _ _ _ _ _ HBk1.out rfl rfl ⟨by rw [Hth2.out]; rfl, below_set3 (HBa.out.trans (HB.out.mono HBa.out.size)) HBk1.out (Nat.le_refl _) _ _ _⟩
      | false =>
        have hdt : ¬ digTest s at_ r = true := by unfold digTest; rw [t6f, hdb, hdg]; simp
        have Hth2 := Lib.hid (show thing s at_ = (if signN s at_ = 0 then .bad at_ else .tok 5 (at_ + signN s at_)) by rw [Hth.out, if_neg t1, if_neg Ht2.out, if_neg Ht3.out, if_neg Ht4.out, if_neg Ht5.out, if_neg hdt, if_neg (by rw [t7]; decide), if_neg (by rw [t7]; decide), if_neg (by rw [t7]; decide), if_neg (by rw [t7]; decide)])
        rw [hdg] at HD2
        rw [← hb1] at HD2
        clear hdg hdt t6 t6f HNth hdb hb1 hrb
        subst t7
        go_wp2_with fail
        refine (HDT.out _).mono ?_
        rintro e1 w1 ⟨rfl, rfl⟩
        go_wp2_with fail
        refine (HD2.out _).mono ?_
        rintro e1 w1 ⟨rfl, rfl⟩
        go_wp2_with fail
        have HSG := Lib.hid (fun w1 => refSigns_any w1)
        refine (HSG.out _).mono ?_
        rintro e1 w2 ⟨rfl, hC, hltS, hB1⟩
        have HC := Lib.hid hC
        have HB := Lib.hid (HB.out.trans (hB1.mono HB.out.size))
        clear hC hB1
        generalize w1.heap.size = gS at *
        go_wp2_with fail
        go_loopg [7, 87] 47 (fun g bv iv wr => ∃ k : Nat, k + g = 47 ∧ bv = .int .i64 (bestK s at_ k) ∧ iv = .int .i64 k ∧ wr = w2)
        case atStart => exact ⟨0, by omega, rfl, rfl, rfl⟩
        case round =>
          obtain ⟨k, hkg, rfl, rfl, rfl⟩ := hrel
          have hbb := best_bound s at_ k (by omega)
          by_cases hk : k < 47
          · have hkI : (k : Int) < 47 := by omega
            obtain ⟨y, hy⟩ : ∃ y, sgL[k]? = some y := ⟨_, List.getElem?_eq_getElem (by rw [sgL_len]; omega)⟩
            have ck := HC.out k y hy
            have hy3 := (sgL_get hy).2
            have HBG := Lib.hid (fun w1 => begins_any s y at_ w1 hs (by omega) hle)
            have hst := best_step (s := s) (q := at_) hy
            clear hy
            generalize bestK s at_ k = bk at *
            cases hp : pre s at_ y.data.toList with
            | true =>
              rw [hp] at HBG hst
              by_cases hlt : bk < y.size
              · have hltI : (bk : Int) < (y.size : Int) := by omega
                rw [decide_eq_true hlt] at hst
                have Hst := Lib.hid (show bestK s at_ (k + 1) = y.size from hst)
                clear hst hp
                go_wp2_with fail
                refine (HBG.out _).mono ?_
                rintro e1 w1 ⟨rfl, rfl⟩
                go_wp2_with fail
                go_roundg (gk - 1)
                case measure => omega
                case rel => exact ⟨k + 1, by omega, by rw [Hst.out], by go_num, rfl⟩
              · have hltI : ¬ (bk : Int) < (y.size : Int) := by omega
                rw [decide_eq_false hlt] at hst
                have Hst := Lib.hid (show bestK s at_ (k + 1) = bk from hst)
                clear hst hp
                go_wp2_with fail
                refine (HBG.out _).mono ?_
                rintro e1 w1 ⟨rfl, rfl⟩
                go_wp2_with fail
                go_roundg (gk - 1)
                case measure => omega
                case rel => exact ⟨k + 1, by omega, by rw [Hst.out], by go_num, rfl⟩
            | false =>
              rw [hp] at HBG hst
              have Hst := Lib.hid (show bestK s at_ (k + 1) = bk from hst)
              clear hst hp
              go_wp2_with fail
              refine (HBG.out _).mono ?_
              rintro e1 w1 ⟨rfl, rfl⟩
              go_wp2_with fail
              go_roundg (gk - 1)
              case measure => omega
              case rel => exact ⟨k + 1, by omega, by rw [Hst.out], by go_num, rfl⟩
          · have hkI : ¬ (k : Int) < 47 := by omega
            obtain rfl : k = 47 := by omega
            rw [best_all hle] at hbb ⊢
            by_cases h0 : signN s at_ = 0
            · have Hth2 := Lib.hid (show thing s at_ = .bad at_ by rw [Hth2.out, if_pos h0])
              rw [h0]
              have HBk1 := Lib.hid ((HB.out.block w.heap.size Hlt.out).trans Hnew.out)
              have c0 := block_cell HBk1.out 0
              have c1 := block_cell HBk1.out 1
              have c2 := block_cell HBk1.out 2
              have f0 := block_free HBk1.out 0
              have f1 := block_free HBk1.out 1
              have f2 := block_free HBk1.out 2
              go_wp2_with fail
              exact ret26 _ _ _ _ _ HBk1.out rfl rfl ⟨by rw [Hth2.out]; rfl, below_set3 (HBa.out.trans (HB.out.mono HBa.out.size)) HBk1.out (Nat.le_refl _) _ _ _⟩
            · have Hth2 := Lib.hid (show thing s at_ = .tok 5 (at_ + signN s at_) by rw [Hth2.out, if_neg h0])
              have h0I : (0 : Int) < (signN s at_ : Nat) := by omega
              have HBk1 := Lib.hid ((HB.out.block w.heap.size Hlt.out).trans Hnew.out)
              have c0 := block_cell HBk1.out 0
              have c1 := block_cell HBk1.out 1
              have c2 := block_cell HBk1.out 2
              have f0 := block_free HBk1.out 0
              have f1 := block_free HBk1.out 1
              have f2 := block_free HBk1.out 2
              go_wp2_with fail
              exact ret26 _ _ _ _ _ HBk1.out rfl rfl ⟨by rw [Hth2.out]; simp only [nextV, Nat.add_sub_cancel_left]; rfl, below_set3 (HBa.out.trans (HB.out.mono HBa.out.size)) HBk1.out (Nat.le_refl _) _ _ _⟩
    · have haJ : ¬ (at_ : Int) < (s.size : Int) - 1 := by omega
      have hdt : ¬ digTest s at_ r = true := by unfold digTest; rw [t6f, dig_out s _ t7b]; simp
      have Hth2 := Lib.hid (show thing s at_ = (if signN s at_ = 0 then .bad at_ else .tok 5 (at_ + signN s at_)) by rw [Hth.out, if_neg t1, if_neg Ht2.out, if_neg Ht3.out, if_neg Ht4.out, if_neg Ht5.out, if_neg hdt, if_neg (by rw [t7]; decide), if_neg (by rw [t7]; decide), if_neg (by rw [t7]; decide), if_neg (by rw [t7]; decide)])
      clear hdt t6 t6f HNth hrb
      subst t7
      go_wp2_with fail
      refine (HDT.out _).mono ?_
      rintro e1 w1 ⟨rfl, rfl⟩
      go_wp2_with fail
      have HSG := Lib.hid (fun w1 => refSigns_any w1)
      refine (HSG.out _).mono ?_
      rintro e1 w2 ⟨rfl, hC, hltS, hB1⟩
      have HC := Lib.hid hC
      have HB := Lib.hid (HB.out.trans (hB1.mono HB.out.size))
      clear hC hB1
      generalize w1.heap.size = gS at *
      go_wp2_with fail
      go_loopg [7, 87] 47 (fun g bv iv wr => ∃ k : Nat, k + g = 47 ∧ bv = .int .i64 (bestK s at_ k) ∧ iv = .int .i64 k ∧ wr = w2)
      case atStart => exact ⟨0, by omega, rfl, rfl, rfl⟩
      case round =>
        obtain ⟨k, hkg, rfl, rfl, rfl⟩ := hrel
        have hbb := best_bound s at_ k (by omega)
        by_cases hk : k < 47
        · have hkI : (k : Int) < 47 := by omega
          obtain ⟨y, hy⟩ : ∃ y, sgL[k]? = some y := ⟨_, List.getElem?_eq_getElem (by rw [sgL_len]; omega)⟩
          have ck := HC.out k y hy
          have hy3 := (sgL_get hy).2
          have HBG := Lib.hid (fun w1 => begins_any s y at_ w1 hs (by omega) hle)
          have hst := best_step (s := s) (q := at_) hy
          clear hy
          generalize bestK s at_ k = bk at *
          cases hp : pre s at_ y.data.toList with
          | true =>
            rw [hp] at HBG hst
            by_cases hlt : bk < y.size
            · have hltI : (bk : Int) < (y.size : Int) := by omega
              rw [decide_eq_true hlt] at hst
              have Hst := Lib.hid (show bestK s at_ (k + 1) = y.size from hst)
              clear hst hp
              go_wp2_with fail
              refine (HBG.out _).mono ?_
              rintro e1 w1 ⟨rfl, rfl⟩
              go_wp2_with fail
              go_roundg (gk - 1)
              case measure => omega
              case rel => exact ⟨k + 1, by omega, by rw [Hst.out], by go_num, rfl⟩
            · have hltI : ¬ (bk : Int) < (y.size : Int) := by omega
              rw [decide_eq_false hlt] at hst
              have Hst := Lib.hid (show bestK s at_ (k + 1) = bk from hst)
              clear hst hp
              go_wp2_with fail
              refine (HBG.out _).mono ?_
              rintro e1 w1 ⟨rfl, rfl⟩
              go_wp2_with fail
              go_roundg (gk - 1)
              case measure => omega
              case rel => exact ⟨k + 1, by omega, by rw [Hst.out], by go_num, rfl⟩
          | false =>
            rw [hp] at HBG hst
            have Hst := Lib.hid (show bestK s at_ (k + 1) = bk from hst)
            clear hst hp
            go_wp2_with fail
            refine (HBG.out _).mono ?_
            rintro e1 w1 ⟨rfl, rfl⟩
            go_wp2_with fail
            go_roundg (gk - 1)
            case measure => omega
            case rel => exact ⟨k + 1, by omega, by rw [Hst.out], by go_num, rfl⟩
        · have hkI : ¬ (k : Int) < 47 := by omega
          obtain rfl : k = 47 := by omega
          rw [best_all hle] at hbb ⊢
          by_cases h0 : signN s at_ = 0
          · have Hth2 := Lib.hid (show thing s at_ = .bad at_ by rw [Hth2.out, if_pos h0])
            rw [h0]
            have HBk1 := Lib.hid ((HB.out.block w.heap.size Hlt.out).trans Hnew.out)
            have c0 := block_cell HBk1.out 0
            have c1 := block_cell HBk1.out 1
            have c2 := block_cell HBk1.out 2
            have f0 := block_free HBk1.out 0
            have f1 := block_free HBk1.out 1
            have f2 := block_free HBk1.out 2
            go_wp2_with fail
            exact ret26 _ _ _ _ _ HBk1.out rfl rfl ⟨by rw [Hth2.out]; rfl, below_set3 (HBa.out.trans (HB.out.mono HBa.out.size)) HBk1.out (Nat.le_refl _) _ _ _⟩
          · have Hth2 := Lib.hid (show thing s at_ = .tok 5 (at_ + signN s at_) by rw [Hth2.out, if_neg h0])
            have h0I : (0 : Int) < (signN s at_ : Nat) := by omega
            have HBk1 := Lib.hid ((HB.out.block w.heap.size Hlt.out).trans Hnew.out)
            have c0 := block_cell HBk1.out 0
            have c1 := block_cell HBk1.out 1
            have c2 := block_cell HBk1.out 2
            have f0 := block_free HBk1.out 0
            have f1 := block_free HBk1.out 1
            have f2 := block_free HBk1.out 2
            go_wp2_with fail
            exact ret26 _ _ _ _ _ HBk1.out rfl rfl ⟨by rw [Hth2.out]; simp only [nextV, Nat.add_sub_cancel_left]; rfl, below_set3 (HBa.out.trans (HB.out.mono HBa.out.size)) HBk1.out (Nat.le_refl _) _ _ _⟩
  have u7 : (r == 46) = false := beq_eq_false_iff_ne.2 t7
  have hdt : ¬ digTest s at_ r = true := by unfold digTest; rw [t6f, decide_eq_false t7]; simp
  have Ht6 := Lib.hid hdt
  clear t6 t6f HNth hdt
  go_wp2_with fail
  refine (HDT.out _).mono ?_
  rintro e1 w1 ⟨rfl, rfl⟩
  clear HDT
  by_cases t8 : r = 39
  · have hqb := (HrS.out 39 (by omega) (by omega)).1 t8
    subst t8
    clear hrb
    cases hl : quotR s 39 at_ (at_ + 1) false with
    | inl f =>
      have Hth2 := Lib.hid (show thing s at_ = .bad f by rw [Hth.out, if_neg t1, if_neg Ht2.out, if_neg Ht3.out, if_neg Ht4.out, if_neg Ht5.out, if_neg Ht6.out, if_pos rfl, hl]; rfl)
      have HK : Hid (∀ w1, Calls Tryz.prog 57 #[.string s, .int .i64 at_, .int .i64 3] w1 fun e' w' => e' = .returned (.agg #[.int .i64 (7), .int .i64 (0), .int .i64 ((f : Nat))]) ∧ Below w1.heap.size w1 w') := Lib.hid (fun w1 => (refQuote39_any s at_ w1 hs ha hqb).mono (fun e2 w2 hh => ⟨by rw [hh.1, ← quot_doc s 39 at_ (by decide) _ (at_ + 1) (Nat.le_refl _), hl]; rfl, hh.2⟩))
      clear hl
      go_wp2_with fail
      refine (HK.out _).mono ?_
      rintro e1 w1 ⟨rfl, hB1⟩
      have HB := Lib.hid (HB.out.trans (hB1.mono HB.out.size))
      clear hB1
      have HBk1 := Lib.hid ((HB.out.block w.heap.size Hlt.out).trans Hnew.out)
      have c0 := block_cell HBk1.out 0
      have c1 := block_cell HBk1.out 1
      have c2 := block_cell HBk1.out 2
      have f0 := block_free HBk1.out 0
      have f1 := block_free HBk1.out 1
      have f2 := block_free HBk1.out 2
      go_wp2_with fail
      exact ret26 _ _ _ _ _ HBk1.out rfl rfl ⟨by rw [Hth2.out]; rfl, below_set3 (HBa.out.trans (HB.out.mono HBa.out.size)) HBk1.out (Nat.le_refl _) _ _ _⟩
    | inr e =>
      have Hth2 := Lib.hid (show thing s at_ = .tok 3 e by rw [Hth.out, if_neg t1, if_neg Ht2.out, if_neg Ht3.out, if_neg Ht4.out, if_neg Ht5.out, if_neg Ht6.out, if_pos rfl, hl]; rfl)
      have HK : Hid (∀ w1, Calls Tryz.prog 57 #[.string s, .int .i64 at_, .int .i64 3] w1 fun e' w' => e' = .returned (.agg #[.int .i64 (3), .int .i64 ((e - at_ : Nat)), .int .i64 (0)]) ∧ Below w1.heap.size w1 w') := Lib.hid (fun w1 => (refQuote39_any s at_ w1 hs ha hqb).mono (fun e2 w2 hh => ⟨by rw [hh.1, ← quot_doc s 39 at_ (by decide) _ (at_ + 1) (Nat.le_refl _), hl]; rfl, hh.2⟩))
      clear hl
      go_wp2_with fail
      refine (HK.out _).mono ?_
      rintro e1 w1 ⟨rfl, hB1⟩
      have HB := Lib.hid (HB.out.trans (hB1.mono HB.out.size))
      clear hB1
      have HBk1 := Lib.hid ((HB.out.block w.heap.size Hlt.out).trans Hnew.out)
      have c0 := block_cell HBk1.out 0
      have c1 := block_cell HBk1.out 1
      have c2 := block_cell HBk1.out 2
      have f0 := block_free HBk1.out 0
      have f1 := block_free HBk1.out 1
      have f2 := block_free HBk1.out 2
      go_wp2_with fail
      exact ret26 _ _ _ _ _ HBk1.out rfl rfl ⟨by rw [Hth2.out]; rfl, below_set3 (HBa.out.trans (HB.out.mono HBa.out.size)) HBk1.out (Nat.le_refl _) _ _ _⟩
  have u8 : (r == 39) = false := beq_eq_false_iff_ne.2 t8
  by_cases t9 : r = 34
  · have hqb := (HrS.out 34 (by omega) (by omega)).1 t9
    subst t9
    clear hrb
    cases hl : quotR s 34 at_ (at_ + 1) false with
    | inl f =>
      have Hth2 := Lib.hid (show thing s at_ = .bad f by rw [Hth.out, if_neg t1, if_neg Ht2.out, if_neg Ht3.out, if_neg Ht4.out, if_neg Ht5.out, if_neg Ht6.out, if_neg t8, if_pos rfl, hl]; rfl)
      have HK : Hid (∀ w1, Calls Tryz.prog 57 #[.string s, .int .i64 at_, .int .i64 4] w1 fun e' w' => e' = .returned (.agg #[.int .i64 (7), .int .i64 (0), .int .i64 ((f : Nat))]) ∧ Below w1.heap.size w1 w') := Lib.hid (fun w1 => (refQuote34_any s at_ w1 hs ha hqb).mono (fun e2 w2 hh => ⟨by rw [hh.1, ← quot_doc s 34 at_ (by decide) _ (at_ + 1) (Nat.le_refl _), hl]; rfl, hh.2⟩))
      clear hl
      go_wp2_with fail
      refine (HK.out _).mono ?_
      rintro e1 w1 ⟨rfl, hB1⟩
      have HB := Lib.hid (HB.out.trans (hB1.mono HB.out.size))
      clear hB1
      have HBk1 := Lib.hid ((HB.out.block w.heap.size Hlt.out).trans Hnew.out)
      have c0 := block_cell HBk1.out 0
      have c1 := block_cell HBk1.out 1
      have c2 := block_cell HBk1.out 2
      have f0 := block_free HBk1.out 0
      have f1 := block_free HBk1.out 1
      have f2 := block_free HBk1.out 2
      go_wp2_with fail
      exact ret26 _ _ _ _ _ HBk1.out rfl rfl ⟨by rw [Hth2.out]; rfl, below_set3 (HBa.out.trans (HB.out.mono HBa.out.size)) HBk1.out (Nat.le_refl _) _ _ _⟩
    | inr e =>
      have Hth2 := Lib.hid (show thing s at_ = .tok 4 e by rw [Hth.out, if_neg t1, if_neg Ht2.out, if_neg Ht3.out, if_neg Ht4.out, if_neg Ht5.out, if_neg Ht6.out, if_neg t8, if_pos rfl, hl]; rfl)
      have HK : Hid (∀ w1, Calls Tryz.prog 57 #[.string s, .int .i64 at_, .int .i64 4] w1 fun e' w' => e' = .returned (.agg #[.int .i64 (4), .int .i64 ((e - at_ : Nat)), .int .i64 (0)]) ∧ Below w1.heap.size w1 w') := Lib.hid (fun w1 => (refQuote34_any s at_ w1 hs ha hqb).mono (fun e2 w2 hh => ⟨by rw [hh.1, ← quot_doc s 34 at_ (by decide) _ (at_ + 1) (Nat.le_refl _), hl]; rfl, hh.2⟩))
      clear hl
      go_wp2_with fail
      refine (HK.out _).mono ?_
      rintro e1 w1 ⟨rfl, hB1⟩
      have HB := Lib.hid (HB.out.trans (hB1.mono HB.out.size))
      clear hB1
      have HBk1 := Lib.hid ((HB.out.block w.heap.size Hlt.out).trans Hnew.out)
      have c0 := block_cell HBk1.out 0
      have c1 := block_cell HBk1.out 1
      have c2 := block_cell HBk1.out 2
      have f0 := block_free HBk1.out 0
      have f1 := block_free HBk1.out 1
      have f2 := block_free HBk1.out 2
      go_wp2_with fail
      exact ret26 _ _ _ _ _ HBk1.out rfl rfl ⟨by rw [Hth2.out]; rfl, below_set3 (HBa.out.trans (HB.out.mono HBa.out.size)) HBk1.out (Nat.le_refl _) _ _ _⟩
  have u9 : (r == 34) = false := beq_eq_false_iff_ne.2 t9
  by_cases t10 : r = 96
  · have hqb := (HrS.out 96 (by omega) (by omega)).1 t10
    subst t10
    clear hrb
    cases hl : closedR s [96] at_ (at_ + 1) with
    | inl f =>
      have Hth2 := Lib.hid (show thing s at_ = .bad f by rw [Hth.out, if_neg t1, if_neg Ht2.out, if_neg Ht3.out, if_neg Ht4.out, if_neg Ht5.out, if_neg Ht6.out, if_neg t8, if_neg t9, if_pos rfl, hl]; rfl)
      have HK : Hid (∀ w1, Calls Tryz.prog 57 #[.string s, .int .i64 at_, .int .i64 4] w1 fun e' w' => e' = .returned (.agg #[.int .i64 (7), .int .i64 (0), .int .i64 ((f : Nat))]) ∧ Below w1.heap.size w1 w') := Lib.hid (fun w1 => (refRaw_any s at_ w1 hs ha hqb).mono (fun e2 w2 hh => ⟨by rw [hh.1, hl]; rfl, hh.2⟩))
      clear hl
      go_wp2_with fail
      refine (HK.out _).mono ?_
      rintro e1 w1 ⟨rfl, hB1⟩
      have HB := Lib.hid (HB.out.trans (hB1.mono HB.out.size))
      clear hB1
      have HBk1 := Lib.hid ((HB.out.block w.heap.size Hlt.out).trans Hnew.out)
      have c0 := block_cell HBk1.out 0
      have c1 := block_cell HBk1.out 1
      have c2 := block_cell HBk1.out 2
      have f0 := block_free HBk1.out 0
      have f1 := block_free HBk1.out 1
      have f2 := block_free HBk1.out 2
      go_wp2_with fail
      exact ret26 _ _ _ _ _ HBk1.out rfl rfl ⟨by rw [Hth2.out]; rfl, below_set3 (HBa.out.trans (HB.out.mono HBa.out.size)) HBk1.out (Nat.le_refl _) _ _ _⟩
    | inr e =>
      have Hth2 := Lib.hid (show thing s at_ = .tok 4 e by rw [Hth.out, if_neg t1, if_neg Ht2.out, if_neg Ht3.out, if_neg Ht4.out, if_neg Ht5.out, if_neg Ht6.out, if_neg t8, if_neg t9, if_pos rfl, hl]; rfl)
      have HK : Hid (∀ w1, Calls Tryz.prog 57 #[.string s, .int .i64 at_, .int .i64 4] w1 fun e' w' => e' = .returned (.agg #[.int .i64 (4), .int .i64 ((e - at_ : Nat)), .int .i64 (0)]) ∧ Below w1.heap.size w1 w') := Lib.hid (fun w1 => (refRaw_any s at_ w1 hs ha hqb).mono (fun e2 w2 hh => ⟨by rw [hh.1, hl]; rfl, hh.2⟩))
      clear hl
      go_wp2_with fail
      refine (HK.out _).mono ?_
      rintro e1 w1 ⟨rfl, hB1⟩
      have HB := Lib.hid (HB.out.trans (hB1.mono HB.out.size))
      clear hB1
      have HBk1 := Lib.hid ((HB.out.block w.heap.size Hlt.out).trans Hnew.out)
      have c0 := block_cell HBk1.out 0
      have c1 := block_cell HBk1.out 1
      have c2 := block_cell HBk1.out 2
      have f0 := block_free HBk1.out 0
      have f1 := block_free HBk1.out 1
      have f2 := block_free HBk1.out 2
      go_wp2_with fail
      exact ret26 _ _ _ _ _ HBk1.out rfl rfl ⟨by rw [Hth2.out]; rfl, below_set3 (HBa.out.trans (HB.out.mono HBa.out.size)) HBk1.out (Nat.le_refl _) _ _ _⟩
  have u10 : (r == 96) = false := beq_eq_false_iff_ne.2 t10
  by_cases t11 : r = 59
  · have Hth2 := Lib.hid (show thing s at_ = .tok 6 (at_ + 1) by rw [Hth.out, if_neg t1, if_neg Ht2.out, if_neg Ht3.out, if_neg Ht4.out, if_neg Ht5.out, if_neg Ht6.out, if_neg t8, if_neg t9, if_neg t10, if_pos t11])
    clear hrb
    subst t11
    have HBk1 := Lib.hid ((HB.out.block w.heap.size Hlt.out).trans Hnew.out)
    have c0 := block_cell HBk1.out 0
    have c1 := block_cell HBk1.out 1
    have c2 := block_cell HBk1.out 2
    have f0 := block_free HBk1.out 0
    have f1 := block_free HBk1.out 1
    have f2 := block_free HBk1.out 2
    go_wp2_with fail
    exact ret26 _ _ _ _ _ HBk1.out rfl rfl ⟨by rw [Hth2.out]; simp only [nextV, Nat.add_sub_cancel_left]; rfl, below_set3 (HBa.out.trans (HB.out.mono HBa.out.size)) HBk1.out (Nat.le_refl _) _ _ _⟩
  have u11 : (r == 59) = false := beq_eq_false_iff_ne.2 t11
  have Hth2 := Lib.hid (show thing s at_ = (if signN s at_ = 0 then .bad at_ else .tok 5 (at_ + signN s at_)) by rw [Hth.out, if_neg t1, if_neg Ht2.out, if_neg Ht3.out, if_neg Ht4.out, if_neg Ht5.out, if_neg Ht6.out, if_neg t8, if_neg t9, if_neg t10, if_neg t11])
  clear t0 t1 t7 t8 t9 t10 t11
  go_wp2_with fail
  have HSG := Lib.hid (fun w1 => refSigns_any w1)
  refine (HSG.out _).mono ?_
  rintro e1 w2 ⟨rfl, hC, hltS, hB1⟩
  have HC := Lib.hid hC
  have HB := Lib.hid (HB.out.trans (hB1.mono HB.out.size))
  clear hC hB1
  generalize w1.heap.size = gS at *
  go_wp2_with fail
  go_loopg [7, 87] 47 (fun g bv iv wr => ∃ k : Nat, k + g = 47 ∧ bv = .int .i64 (bestK s at_ k) ∧ iv = .int .i64 k ∧ wr = w2)
  case atStart => exact ⟨0, by omega, rfl, rfl, rfl⟩
  case round =>
    obtain ⟨k, hkg, rfl, rfl, rfl⟩ := hrel
    have hbb := best_bound s at_ k (by omega)
    by_cases hk : k < 47
    · have hkI : (k : Int) < 47 := by omega
      obtain ⟨y, hy⟩ : ∃ y, sgL[k]? = some y := ⟨_, List.getElem?_eq_getElem (by rw [sgL_len]; omega)⟩
      have ck := HC.out k y hy
      have hy3 := (sgL_get hy).2
      have HBG := Lib.hid (fun w1 => begins_any s y at_ w1 hs (by omega) hle)
      have hst := best_step (s := s) (q := at_) hy
      clear hy
      generalize bestK s at_ k = bk at *
      cases hp : pre s at_ y.data.toList with
      | true =>
        rw [hp] at HBG hst
        by_cases hlt : bk < y.size
        · have hltI : (bk : Int) < (y.size : Int) := by omega
          rw [decide_eq_true hlt] at hst
          have Hst := Lib.hid (show bestK s at_ (k + 1) = y.size from hst)
          clear hst hp
          go_wp2_with fail
          refine (HBG.out _).mono ?_
          rintro e1 w1 ⟨rfl, rfl⟩
          go_wp2_with fail
          go_roundg (gk - 1)
          case measure => omega
          case rel => exact ⟨k + 1, by omega, by rw [Hst.out], by go_num, rfl⟩
        · have hltI : ¬ (bk : Int) < (y.size : Int) := by omega
          rw [decide_eq_false hlt] at hst
          have Hst := Lib.hid (show bestK s at_ (k + 1) = bk from hst)
          clear hst hp
          go_wp2_with fail
          refine (HBG.out _).mono ?_
          rintro e1 w1 ⟨rfl, rfl⟩
          go_wp2_with fail
          go_roundg (gk - 1)
          case measure => omega
          case rel => exact ⟨k + 1, by omega, by rw [Hst.out], by go_num, rfl⟩
      | false =>
        rw [hp] at HBG hst
        have Hst := Lib.hid (show bestK s at_ (k + 1) = bk from hst)
        clear hst hp
        go_wp2_with fail
        refine (HBG.out _).mono ?_
        rintro e1 w1 ⟨rfl, rfl⟩
        go_wp2_with fail
        go_roundg (gk - 1)
        case measure => omega
        case rel => exact ⟨k + 1, by omega, by rw [Hst.out], by go_num, rfl⟩
    · have hkI : ¬ (k : Int) < 47 := by omega
      obtain rfl : k = 47 := by omega
      rw [best_all hle] at hbb ⊢
      by_cases h0 : signN s at_ = 0
      · have Hth2 := Lib.hid (show thing s at_ = .bad at_ by rw [Hth2.out, if_pos h0])
        rw [h0]
        have HBk1 := Lib.hid ((HB.out.block w.heap.size Hlt.out).trans Hnew.out)
        have c0 := block_cell HBk1.out 0
        have c1 := block_cell HBk1.out 1
        have c2 := block_cell HBk1.out 2
        have f0 := block_free HBk1.out 0
        have f1 := block_free HBk1.out 1
        have f2 := block_free HBk1.out 2
        go_wp2_with fail
        exact ret26 _ _ _ _ _ HBk1.out rfl rfl ⟨by rw [Hth2.out]; rfl, below_set3 (HBa.out.trans (HB.out.mono HBa.out.size)) HBk1.out (Nat.le_refl _) _ _ _⟩
      · have Hth2 := Lib.hid (show thing s at_ = .tok 5 (at_ + signN s at_) by rw [Hth2.out, if_neg h0])
        have h0I : (0 : Int) < (signN s at_ : Nat) := by omega
        have HBk1 := Lib.hid ((HB.out.block w.heap.size Hlt.out).trans Hnew.out)
        have c0 := block_cell HBk1.out 0
        have c1 := block_cell HBk1.out 1
        have c2 := block_cell HBk1.out 2
        have f0 := block_free HBk1.out 0
        have f1 := block_free HBk1.out 1
        have f2 := block_free HBk1.out 2
        go_wp2_with fail
        exact ret26 _ _ _ _ _ HBk1.out rfl rfl ⟨by rw [Hth2.out]; simp only [nextV, Nat.add_sub_cancel_left]; rfl, below_set3 (HBa.out.trans (HB.out.mono HBa.out.size)) HBk1.out (Nat.le_refl _) _ _ _⟩
end Go.Proofs.YtejogobhnbjpdaaGreatDoor
namespace Go.Proofs.YtejogobhnbjpdaaGreatDoor
set_option linter.unusedVariables false
set_option linter.unusedSimpArgs false
open Go.ChangeShapes Go.WideShapes Go.ChangeAt Go.RowKit

/-- A block of three cells, made and written. -/
structure BoxT (w : World) (B : Nat) (x y z : Value) (u : World) : Prop where
  k : u.heap[B]? = some (.cells #[x, y, z] 67 (0, 0))
  b : Below w.heap.size w u
theorem boxT_made (w : World) (x y z : Value) : BoxT w w.heap.size x y z (w.alloc (.cells #[x, y, z] 67)) := ⟨heap_alloc_new w _, (Below.refl _ w).alloc (Nat.le_refl _) _⟩
theorem boxT_abs {ops : Array Oper} {rest : List Oper} {Q : Exit → Act → World → Prop} {a : Act} {w w' : World} {B : Nat} {x y z : Value} (hb : BoxT w B x y z w') (h : ∀ u, BoxT w B x y z u → wpList Tryz.prog ops Q rest a u) : wpList Tryz.prog ops Q rest a w' := h _ hb
/-- Two rows of tokens in blocks of their own. -/
structure Rl (base : Nat) (T M : List Tk) (v u : Value) (w : World) : Prop where
  hb : base ≤ w.heap.size
  ov : w.ownsRow base 35 3 v T.length (LF tkV T)
  ou : w.ownsRow base 35 3 u M.length (LF tkV M)
  ap : Apart v u
theorem Rl.below {base : Nat} {T M : List Tk} {v u : Value} {w w' : World} (h : Rl base T M v u w) (hB : Below w.heap.size w w') : Rl base T M v u w' :=
  ⟨Nat.le_trans h.hb hB.size, gen_own_below h.ov hB, gen_own_below h.ou hB, h.ap⟩
theorem Rl.growV {base : Nat} {T T' M : List Tk} {v v' u : Value} {w w' : World} (h : Rl base T M v u w) (ho : w'.ownsRow base 35 3 v' T'.length (LF tkV T')) (hg : w.grownBy w' v.ownBlock) (ha : v'.ownBlock = v.ownBlock ∨ ∃ g, v'.ownBlock = some g ∧ w.heap.size ≤ g) :
    Rl base T' M v' u w' ∧ Below base w w' := by
  have hB : Below base w w' := (Below.refl _ _).grown hg h.hb (fun k hk => (h.ov.lt k hk).1)
  refine ⟨⟨Nat.le_trans h.hb hg.size, ho, own_far h.ou hg (fun g hgm e => h.ap g e hgm), fun g hv hm => ?_⟩, hB⟩
  rcases ha with e | ⟨g', e, hle⟩
  · exact h.ap g (e.symm.trans hv) hm
  · rw [e] at hv
    have h5 := (own_lt h.ou hm).2
    simp only [Option.some.injEq] at hv
    omega
theorem Rl.growU {base : Nat} {T M M' : List Tk} {v u u' : Value} {w w' : World} (h : Rl base T M v u w) (ho : w'.ownsRow base 35 3 u' M'.length (LF tkV M')) (hg : w.grownBy w' u.ownBlock) (ha : u'.ownBlock = u.ownBlock ∨ ∃ g, u'.ownBlock = some g ∧ w.heap.size ≤ g) :
    Rl base T M' v u' w' ∧ Below base w w' := by
  have hB : Below base w w' := (Below.refl _ _).grown hg h.hb (fun k hk => (h.ou.lt k hk).1)
  refine ⟨⟨Nat.le_trans h.hb hg.size, own_far h.ov hg (fun g hgm e => h.ap g hgm e), ho, fun g hv hm => ?_⟩, hB⟩
  rcases ha with e | ⟨g', e, hle⟩
  · exact h.ap g hv (e.symm.trans hm)
  · rw [e] at hm
    have h5 := (own_lt h.ov hv).2
    simp only [Option.some.injEq] at hm
    omega
theorem box_new2 (w : World) (a b : Obj) : ((w.alloc a).alloc b).heap[w.heap.size + 1]? = some b := by
  have h := heap_alloc_new (w.alloc a) b
  have e : (w.alloc a).heap.size = w.heap.size + 1 := by simp
  rw [e] at h
  exact h
theorem own_new {b : Option Nat} {w w' : World} (ha : b = some w.heap.size) (hs : w'.heap.size ≤ w.heap.size) : ∃ g, b = some g ∧ w'.heap.size ≤ g := ⟨_, ha, hs⟩
section
variable {t e : TypeId} {n by_ : Nat} {X : Type} {fl : X → List Value}
theorem wpList_append_gen2 (E : Elt t e n by_ fl) {w : World} {ops : Array Oper} {rest : List Oper} {o : Oper} {a : Act} {Q : Exit → Act → World → Prop} (hgd : o.guard = none) (s x : Operand)
    (ho : o.op = .call { callee := .builtin .append, args := #[s, x], argTypes := #[t, t] }) (hty : o.type = t) (base : Nat) (v : Value) (xs : List X) (hs : a.eval s = v) (hown : w.ownsRow base e n v xs.length (LF fl xs))
    (u : Value) (l : List X) (hu : LAt n fl w u l) (hx : a.eval x = u) (hb : (xs.length + l.length) * by_ ≤ 140737488355328) (hm : xs.length + l.length ≤ maxLen) (hbase : base ≤ w.heap.size)
    (h : ∀ v' w', w'.ownsRow base e n v' (xs ++ l).length (LF fl (xs ++ l)) → w.grownBy w' v.ownBlock → (v'.ownBlock = v.ownBlock ∨ v'.ownBlock = some w.heap.size) → wpList Tryz.prog ops Q rest (a.put o.dst v') w') : wpList Tryz.prog ops Q (o :: rest) a w := by
  obtain ⟨v', w', h1, h2, h3, h4⟩ := run_append_gen2 E w base v _ _ u l hown hu hb hm hbase
  refine wpList_plain hgd fun K hK => ?_
  unfold Oper.wp execOp
  simp only [ho, hty, resolve, invoke, builtin, Sem.run_bind, Sem.run_pure, Result.andThen_ok, List.map_toArray, List.map_cons, List.map_nil, hs, hx]
  rw [h1]
  exact hK _ _ (h v' w' (by rw [List.length_append, LF_app]; exact h2) h3 h4)
end
theorem grown_pre {w w1 w2 : World} {row : Option Nat} (hB : Below w.heap.size w w1) (hg : w1.grownBy w2 row) : w.grownBy w2 row :=
  ⟨hg.os.trans hB.os, hg.tape.trans hB.tape, hg.output.trans hB.output, Nat.le_trans hB.size hg.size, fun k hk hne => (hg.block k (Nat.lt_of_lt_of_le hk hB.size) hne).trans (hB.block k hk)⟩
theorem own_pre {b r : Option Nat} {w w1 : World} (hB : Below w.heap.size w w1) (h : b = r ∨ b = some w1.heap.size) : b = r ∨ ∃ g, b = some g ∧ w.heap.size ≤ g := by
  rcases h with h | h
  · exact .inl h
  · exact .inr ⟨_, h, hB.size⟩
set_option maxRecDepth 100000 in
set_option maxHeartbeats 2000000 in
theorem refFeed_any (base : Nat) (v : Value) (l : List Tk) (at_ : Nat) (w : World) (ho : w.ownsRow base 35 3 v l.length (LF tkV l)) (hb : base ≤ w.heap.size) (hl : l.length ≤ 16777216) :
    Calls Tryz.prog 30 #[v, .int .i64 at_] w fun e w' => ∃ v', e = .returned v' ∧ w'.ownsRow base 35 3 v' (feedL l at_).length (LF tkV (feedL l at_)) ∧ w.grownBy w' v.ownBlock ∧ (v'.ownBlock = v.ownBlock ∨ ∃ g, v'.ownBlock = some g ∧ w.heap.size ≤ g) := by
  have Hb := Lib.hid hb
  obtain ⟨p, c, rfl⟩ := own_slice ho
  have hcs : l = [] ∨ ∃ T' t, l = T' ++ [t] := by
    rcases List.eq_nil_or_concat l with h | ⟨T', t, h⟩
    · exact .inl h
    · exact .inr ⟨T', t, by rw [h, List.concat_eq_append]⟩
  rcases hcs with rfl | ⟨T', ⟨k, x, at2⟩, rfl⟩
  · have HO := Lib.hid (show w.ownsRow base 35 3 (.slice p 0 c) 0 (LF tkV []) from ho)
    show Calls Tryz.prog 30 #[.slice p 0 c, .int .i64 at_] w _
    clear ho hb hl
    go_enter Tryz.func30, Tryz.ntmps30
    go_wp2_with fail
    go_ret
    exact ⟨_, rfl, HO.out, World.grownBy.refl _ _, .inl rfl⟩
  · have hv := LAt.own (fun y _ => tkV_len y) ho
    obtain ⟨p2, c2, he, hp⟩ := hv.shape
    injection he with he1 he2 he3
    subst he1; subst he3
    obtain ⟨g, off, rfl⟩ := hp (by simp)
    obtain ⟨hg, e0, e1, e2⟩ := hv.cells (i := T'.length) (k := k) (x := x) (p := at2) (by simp)
    have HO := Lib.hid ho
    have HC := Lib.hid (fun w1 => feeds_any k at2 x w1)
    have HE := Lib.hid (show feedL (T' ++ [(k, x, at2)]) at_ = if endsB (k, x, at2) = true then (T' ++ [(k, x, at2)]) ++ [(6, ⟨#[]⟩, at_)] else T' ++ [(k, x, at2)] by unfold feedL; rw [List.getLast?_concat])
    have hln : (T' ++ [(k, x, at2)]).length = T'.length + 1 := by simp
    rw [hln] at hl ⊢
    clear ho hv hp he2 hb
    obtain ⟨m, hm⟩ : ∃ m, m = T'.length := ⟨_, rfl⟩
    rw [← hm] at hl e0 e1 e2 ⊢
    have HLn := Lib.hid (hln.trans (by rw [hm]) : (T' ++ [(k, x, at2)]).length = m + 1)
    clear hln hm
    generalize T' ++ [(k, x, at2)] = L at *
    have hm1 : (m : Int) + 1 - 1 = m := by omega
    have h0 : decide (0 < m + 1) = true := decide_eq_true (by omega)
    have h0I : (0 : Int) < (m : Int) + 1 := by omega
    cases he : endsB (k, x, at2) with
    | true =>
      rw [he] at HC
      have HE2 := Lib.hid (show feedL L at_ = L ++ [(6, ⟨#[]⟩, at_)] by rw [HE.out, if_pos he])
      clear he
      go_enter Tryz.func30, Tryz.ntmps30
      go_wp2_with fail
      refine (HC.out _).mono ?_
      rintro e1 w1 ⟨rfl, hB1⟩
      have HB := Lib.hid hB1
      have HO1 := Lib.hid (gen_own_below HO.out (hB1.trans ((Below.refl w1.heap.size w1).alloc (Nat.le_refl _) (.cells #[.int .i64 6, .string ⟨#[]⟩, .int .i64 at_] 35) |>.mono hB1.size)))
      rw [HLn.out] at HO1
      have HBx := Lib.hid ((Below.refl w1.heap.size w1).alloc (Nat.le_refl _) (.cells #[.int .i64 6, .string ⟨#[]⟩, .int .i64 at_] 35))
      clear hB1
      go_wp2_with (first | (at_builtin; go_must (refine wpList_append_gen2 eltT rfl (.tmp 17) (.tmp 20) rfl rfl base _ L rfl (by rw [HLn.out]; exact HO1.out) _ [(6, ⟨#[]⟩, at_)] (LAt.block rfl rfl (heap_alloc_new _ _)) rfl (by rw [HLn.out]; simp only [List.length_cons, List.length_nil]; omega) (by unfold maxLen; rw [HLn.out]; simp only [List.length_cons, List.length_nil]; omega) (Nat.le_trans Hb.out (Nat.le_trans HB.out.size HBx.out.size)) ?_); intro va wa hoa hga haa; have Hoa := Lib.hid hoa; have Hga := Lib.hid hga; have Haa := Lib.hid haa; clear hoa hga haa))
      go_ret
      refine ⟨va, rfl, ?_, ?_, ?_⟩
      · rw [HE2.out]; exact Hoa.out
      · exact grown_pre (HB.out.trans (HBx.out.mono HB.out.size)) Hga.out
      · exact own_pre (HB.out.trans (HBx.out.mono HB.out.size)) Haa.out
    | false =>
      rw [he] at HC
      have HE2 := Lib.hid (show feedL L at_ = L by rw [HE.out, if_neg (by rw [he]; decide)])
      clear he
      go_enter Tryz.func30, Tryz.ntmps30
      go_wp2_with fail
      refine (HC.out _).mono ?_
      rintro e1 w1 ⟨rfl, hB1⟩
      have HB := Lib.hid hB1
      clear hB1
      go_wp2_with fail
      go_ret
      exact ⟨_, rfl, by rw [HE2.out, HLn.out]; have := gen_own_below HO.out HB.out; rw [HLn.out] at this; exact this, grown_pre HB.out (World.grownBy.refl _ _), .inl rfl⟩

/-- The rows, and a box beside them. -/
structure Rb (base B : Nat) (x y z : Value) (T M : List Tk) (v u : Value) (w : World) : Prop where
  r : Rl base T M v u w
  k : w.heap[B]? = some (.cells #[x, y, z] 67 (0, 0))
  nv : v.ownBlock ≠ some B
  nu : u.ownBlock ≠ some B
theorem Rb.below {base B : Nat} {x y z : Value} {T M : List Tk} {v u : Value} {w w' : World} (h : Rb base B x y z T M v u w) (hB : Below w.heap.size w w') : Rb base B x y z T M v u w' :=
  ⟨h.r.below hB, (hB.block _ (lt_of_block h.k)).trans h.k, h.nv, h.nu⟩
theorem Rb.make {base : Nat} {x y z : Value} {T M : List Tk} {v u : Value} {w w' : World} (h : Rl base T M v u w) (hb : BoxT w w.heap.size x y z w') : Rb base w.heap.size x y z T M v u w' :=
  ⟨h.below hb.b, hb.k, fun e => by have := (own_lt h.ov e).2; omega, fun e => by have := (own_lt h.ou e).2; omega⟩
theorem Rb.growV {base B : Nat} {x y z : Value} {T T' M : List Tk} {v v' u : Value} {w w' : World} (h : Rb base B x y z T M v u w) (ho : w'.ownsRow base 35 3 v' T'.length (LF tkV T')) (hg : w.grownBy w' v.ownBlock) (ha : v'.ownBlock = v.ownBlock ∨ ∃ g, v'.ownBlock = some g ∧ w.heap.size ≤ g) :
    Rb base B x y z T' M v' u w' ∧ Below base w w' := by
  obtain ⟨h1, h2⟩ := h.r.growV ho hg ha
  refine ⟨⟨h1, (hg.block B (lt_of_block h.k) (fun e => h.nv e.symm)).trans h.k, ?_, h.nu⟩, h2⟩
  have := lt_of_block h.k
  rcases ha with e | ⟨g, e, hle⟩
  · rw [e]; exact h.nv
  · rw [e]; intro e2; injection e2 with e2; omega
theorem Rb.growU {base B : Nat} {x y z : Value} {T M M' : List Tk} {v u u' : Value} {w w' : World} (h : Rb base B x y z T M v u w) (ho : w'.ownsRow base 35 3 u' M'.length (LF tkV M')) (hg : w.grownBy w' u.ownBlock) (ha : u'.ownBlock = u.ownBlock ∨ ∃ g, u'.ownBlock = some g ∧ w.heap.size ≤ g) :
    Rb base B x y z T M' v u' w' ∧ Below base w w' := by
  obtain ⟨h1, h2⟩ := h.r.growU ho hg ha
  refine ⟨⟨h1, (hg.block B (lt_of_block h.k) (fun e => h.nu e.symm)).trans h.k, h.nv, ?_⟩, h2⟩
  have := lt_of_block h.k
  rcases ha with e | ⟨g, e, hle⟩
  · rw [e]; exact h.nu
  · rw [e]; intro e2; injection e2 with e2; omega
structure RbE (base B : Nat) (x y z : Value) (T M : List Tk) (v0 u v : Value) (w : World) : Prop where
  e : v = v0
  b : Rb base B x y z T M v0 u w
structure RbW (base B : Nat) (x y z : Value) (T M : List Tk) (u v : Value) (w : World) : Prop where
  b : Rb base B x y z T M v u w
theorem RbE.st1 (base B : Nat) (x y z : Value) (T M : List Tk) (v0 u : Value) : K3.St1 (RbE base B x y z T M v0 u) := fun v w1 w2 h hB => ⟨h.e, h.b.below hB⟩
theorem RbW.st1 (base B : Nat) (x y z : Value) (T M : List Tk) (u : Value) : K3.St1 (RbW base B x y z T M u) := fun v w1 w2 h hB => ⟨h.b.below hB⟩
theorem skip_sk3 (b : ByteArray) : skipV b = (skN b : Nat) := by unfold skipV skN; split <;> rfl
set_option maxRecDepth 100000 in
set_option maxHeartbeats 16000000 in
theorem refLex_any (s : ByteArray) (w : World) (hs : s.size ≤ 1048576) :
    Calls Tryz.prog 11 #[.string s] w fun e w' => ∃ v u, e = .returned (.tuple #[v, u]) ∧ LAt 3 tkV w' v (lexL s) ∧ LAt 3 tkV w' u (lexM s) ∧ Below w.heap.size w w' := by
  have HSK := Lib.hid (fun w1 => refSkip_any s w1 (by omega))
  rw [skip_sk3] at HSK
  have hk := skN_le s
  obtain ⟨k, hk0⟩ : ∃ k, k = skN s := ⟨_, rfl⟩
  rw [← hk0] at HSK hk
  have HL : Hid (∀ q T M, lexT s k [] [] = lexT s q T M → lexL s = (lexT s q T M).1 ∧ lexM s = (lexT s q T M).2) := Lib.hid (fun q T M h => by unfold lexL lexM; rw [← hk0, h]; exact ⟨rfl, rfl⟩)
  clear hk0
  generalize lexL s = LL at *
  generalize lexM s = MM at *
  go_enter Tryz.func11, Tryz.ntmps11
  go_wp2_with fail
  refine (HSK.out _).mono ?_
  rintro e1 w1 ⟨rfl, rfl⟩
  go_wp2_with fail
  go_loopg [4, 5, 6] (s.size - k) (fun g ov nv av wr => ∃ (q : Nat) (T M : List Tk), q + g = s.size ∧ av = .int .i64 q ∧ Hid (Rl w.heap.size T M ov nv wr) ∧ Hid (lexT s k [] [] = lexT s q T M) ∧ T.length ≤ q ∧ M.length ≤ q ∧ Hid (Below w.heap.size w wr))
  case atStart => exact ⟨k, [], [], by omega, rfl, Lib.hid ⟨Nat.le_refl _, ⟨by simp [LF], .inl ⟨rfl, rfl⟩⟩, ⟨by simp [LF], .inl ⟨rfl, rfl⟩⟩, fun g h => by cases h⟩, Lib.hid rfl, Nat.zero_le _, Nat.zero_le _, Lib.hid (Below.refl _ _)⟩
  case round =>
    obtain ⟨q, T, M, hqg, rfl, HR, HE, hTq, hMq, HB⟩ := hrel
    obtain ⟨pv, cv, rfl⟩ := own_slice HR.out.ov
    obtain ⟨pu, cu, rfl⟩ := own_slice HR.out.ou
    by_cases hq : q < s.size
    · have hqI : (q : Int) < (s.size : Int) := by omega
      have hte := thing_ends hq
      have hsp := (th_spec hq).2.2.2
      cases hth : thing s q with
      | bad f =>
        have hf := hte.1 f hth
        have HE2 := Lib.hid (HL.out q T M HE.out)
        rw [lexT_bad hq hth T M] at HE2
        clear hte hsp
        have HN : Hid (∀ w1, Calls Tryz.prog 29 #[.string s, .int .i64 q] w1 fun e' w' => e' = .returned (.agg #[.int .i64 (7), .int .i64 (0), .int .i64 ((f : Nat))]) ∧ Below w1.heap.size w1 w') := Lib.hid (fun w1 => (next26_any s q w1 hs hq).mono (fun e2 w2 hh => ⟨by rw [hh.1, hth]; rfl, hh.2⟩))
        clear hth
        go_wp2_with fail
        refine (HN.out _).mono ?_
        rintro e1 w1 ⟨rfl, hB1⟩
        have HR1 := Lib.hid (HR.out.below hB1)
        have HB1 := Lib.hid (HB.out.trans (hB1.mono HB.out.size))
        clear hB1
        have hbx := boxT_made w1 (.int .i64 (7)) (.int .i64 (0)) (.int .i64 ((f : Nat)))
        have HX := Lib.hid (Rb.make HR1.out hbx)
        have HBb := Lib.hid (HB1.out.trans (hbx.b.mono HB1.out.size))
        have c0 := block_cell hbx.k 0
        have c1 := block_cell hbx.k 1
        have c2 := block_cell hbx.k 2
        clear hbx
        go_wp2_with (first | (at_builtin; go_must (refine wpList_append_gen2 eltT rfl (.tmp 35) (.tmp 39) rfl rfl w.heap.size _ T rfl (HX.out.below ((Below.refl _ _).alloc (Nat.le_refl _) _)).r.ov _ [(7, ⟨#[]⟩, f)] (LAt.block rfl rfl (box_new2 _ _ _)) rfl (by simp only [List.length_cons, List.length_nil]; omega) (by unfold maxLen; simp only [List.length_cons, List.length_nil]; omega) ((HX.out.below ((Below.refl _ _).alloc (Nat.le_refl _) _)).r.hb) ?_); intro va wa hoa hga haa; have hgr := (HX.out.below ((Below.refl _ _).alloc (Nat.le_refl _) _)).growV hoa hga (haa.imp id (fun h => ⟨_, h, Nat.le_refl _⟩)); have HG := Lib.hid hgr.1; have HGB := Lib.hid ((HBb.out.alloc HBb.out.size _).trans hgr.2);  clear hoa hga haa hgr))
        go_ret2
        exact ⟨_, _, rfl, by rw [HE2.out.1]; exact LAt.own (fun y _ => tkV_len y) HG.out.r.ov, by rw [HE2.out.2]; exact LAt.own (fun y _ => tkV_len y) HG.out.r.ou, HGB.out⟩
      | lf =>
        clear hte hsp
        have HE2 := Lib.hid (HE.out.trans (show lexT s q T M = lexT s (q + 1) (feedL T q) M from by
          have := lexT_step hq (show (thing s q).ok = true by rw [hth]; rfl) T M
          rw [hth] at this
          exact this))
        have HN : Hid (∀ w1, Calls Tryz.prog 29 #[.string s, .int .i64 q] w1 fun e' w' => e' = .returned (.agg #[.int .i64 (-2), .int .i64 (1), .int .i64 (0)]) ∧ Below w1.heap.size w1 w') := Lib.hid (fun w1 => (next26_any s q w1 hs hq).mono (fun e2 w2 hh => ⟨by rw [hh.1, hth]; rfl, hh.2⟩))
        clear hth
        go_wp2_with fail
        refine (HN.out _).mono ?_
        rintro e1 w1 ⟨rfl, hB1⟩
        have HR1 := Lib.hid (HR.out.below hB1)
        have HB1 := Lib.hid (HB.out.trans (hB1.mono HB.out.size))
        clear hB1
        have hfl := (feedL_len T q).2
        have hbx := boxT_made w1 (.int .i64 (-2)) (.int .i64 (1)) (.int .i64 (0))
        have HX := Lib.hid (Rb.make HR1.out hbx)
        have HBb := Lib.hid (HB1.out.trans (hbx.b.mono HB1.out.size))
        have c0 := block_cell hbx.k 0
        have c1 := block_cell hbx.k 1
        have c2 := block_cell hbx.k 2
        clear hbx

        go_wp2_with fail
        refine (refFeed_any w.heap.size _ T q _ HX.out.r.ov HX.out.r.hb (by omega)).mono ?_
        rintro e1 w2 ⟨v', rfl, hoa, hga, haa⟩
        have hgr := HX.out.growV hoa hga haa
        have HG := Lib.hid hgr.1
        have HGB := Lib.hid (HBb.out.trans hgr.2)
        have d1 := block_cell hgr.1.k 1
        clear hoa hga haa hgr
        go_wp2_with fail
        go_roundg (s.size - (q + 1))
        case measure => omega
        case rel => exact ⟨q + 1, feedL T q, M, by omega, by go_num, Lib.hid HG.out.r, HE2, by omega, by omega, HGB⟩
      | blank =>
        clear hte hsp
        have HE2 := Lib.hid (HE.out.trans (show lexT s q T M = lexT s (q + 1) T M from by
          have := lexT_step hq (show (thing s q).ok = true by rw [hth]; rfl) T M
          rw [hth] at this
          exact this))
        have HN : Hid (∀ w1, Calls Tryz.prog 29 #[.string s, .int .i64 q] w1 fun e' w' => e' = .returned (.agg #[.int .i64 (-1), .int .i64 (1), .int .i64 (0)]) ∧ Below w1.heap.size w1 w') := Lib.hid (fun w1 => (next26_any s q w1 hs hq).mono (fun e2 w2 hh => ⟨by rw [hh.1, hth]; rfl, hh.2⟩))
        clear hth
        go_wp2_with fail
        refine (HN.out _).mono ?_
        rintro e1 w1 ⟨rfl, hB1⟩
        have HR1 := Lib.hid (HR.out.below hB1)
        have HB1 := Lib.hid (HB.out.trans (hB1.mono HB.out.size))
        clear hB1
        have hbx := boxT_made w1 (.int .i64 (-1)) (.int .i64 (1)) (.int .i64 (0))
        have HX := Lib.hid (Rb.make HR1.out hbx)
        have HBb := Lib.hid (HB1.out.trans (hbx.b.mono HB1.out.size))
        have c0 := block_cell hbx.k 0
        have c1 := block_cell hbx.k 1
        have c2 := block_cell hbx.k 2
        clear hbx
        go_wp2_with fail
        go_roundg (s.size - (q + 1))
        case measure => omega
        case rel => exact ⟨q + 1, T, M, by omega, by go_num, Lib.hid HX.out.r, HE2, by omega, by omega, HBb⟩
      | note e =>
        have he : q < e ∧ e ≤ s.size := by
          have := hte.2 (by rw [hth]; rfl)
          rw [hth] at this
          exact ⟨this.1, this.2.1⟩
        have hsum : (q : Int) + ((e - q : Nat) : Int) = e := by omega
        have hqe : (q : Int) ≤ (e : Int) := by omega
        have heI : (e : Int) ≤ (s.size : Int) := by omega
        have hxs : (s.extract q e).size ≤ 1048576 := by rw [ByteArray.size_extract]; omega
        cases hlf : hasLF s q e with
        | true =>
          have HE2 := Lib.hid (HE.out.trans (show lexT s q T M = lexT s e (feedL T q) (M ++ [(0, s.extract q e, q)]) from by
            have := lexT_step hq (show (thing s q).ok = true by rw [hth]; rfl) T M
            rw [hth] at this
            rw [this]
            simp only [lNext, mNext, Th.en, hlf]
            rfl))
          clear hte hsp
          have HN : Hid (∀ w1, Calls Tryz.prog 29 #[.string s, .int .i64 q] w1 fun e' w' => e' = .returned (.agg #[.int .i64 (-4), .int .i64 ((e - q : Nat)), .int .i64 (0)]) ∧ Below w1.heap.size w1 w') := Lib.hid (fun w1 => (next26_any s q w1 hs hq).mono (fun e2 w2 hh => ⟨by rw [hh.1, hth]; simp only [nextV, hlf]; rfl, hh.2⟩))
          clear hth hlf
          go_wp2_with fail
          refine (HN.out _).mono ?_
          rintro e1 w1 ⟨rfl, hB1⟩
          have HR1 := Lib.hid (HR.out.below hB1)
          have HB1 := Lib.hid (HB.out.trans (hB1.mono HB.out.size))
          clear hB1
          have hbx := boxT_made w1 (.int .i64 (-4)) (.int .i64 ((e - q : Nat))) (.int .i64 (0))
          have HX := Lib.hid (Rb.make HR1.out hbx)
          have HBb := Lib.hid (HB1.out.trans (hbx.b.mono HB1.out.size))
          have c0 := block_cell hbx.k 0
          have c1 := block_cell hbx.k 1
          have c2 := block_cell hbx.k 2
          clear hbx
          go_wp2_with (first | (at_builtin; go_must (refine wpList_append_gen2 eltT rfl (.tmp 52) (.tmp 62) rfl rfl w.heap.size _ M rfl (HX.out.below ((Below.refl _ _).alloc (Nat.le_refl _) _)).r.ou _ [(0, s.extract q e, q)] (LAt.block rfl rfl (box_new2 _ _ _)) rfl (by simp only [List.length_cons, List.length_nil]; omega) (by unfold maxLen; simp only [List.length_cons, List.length_nil]; omega) ((HX.out.below ((Below.refl _ _).alloc (Nat.le_refl _) _)).r.hb) ?_); intro va wa hoa hga haa; have hgr := (HX.out.below ((Below.refl _ _).alloc (Nat.le_refl _) _)).growU hoa hga (haa.imp id (fun h => ⟨_, h, Nat.le_refl _⟩)); have HG := Lib.hid hgr.1; have HGB := Lib.hid ((HBb.out.alloc HBb.out.size _).trans hgr.2); have d0 := block_cell hgr.1.k 0; have d1 := block_cell hgr.1.k 1; clear hoa hga haa hgr))
          have hfl := (feedL_len T q).2
          refine (refFeed_any w.heap.size _ T q _ HG.out.r.ov HG.out.r.hb (by omega)).mono ?_
          rintro e1 w2 ⟨v', rfl, hoa, hga, haa⟩
          have hgr := HG.out.growV hoa hga haa
          have HG2 := Lib.hid hgr.1
          have HGB2 := Lib.hid (HGB.out.trans hgr.2)
          have d3 := block_cell hgr.1.k 1
          clear hoa hga haa hgr
          go_wp2_with fail
          go_roundg (s.size - (e))
          case measure => omega
          case rel => exact ⟨e, feedL T q, M ++ [(0, s.extract q e, q)], by omega, by go_num, Lib.hid HG2.out.r, HE2, by omega, by rw [List.length_append]; simp only [List.length_cons, List.length_nil]; omega, HGB2⟩
        | false =>
          have HE2 := Lib.hid (HE.out.trans (show lexT s q T M = lexT s e T (M ++ [(0, s.extract q e, q)]) from by
            have := lexT_step hq (show (thing s q).ok = true by rw [hth]; rfl) T M
            rw [hth] at this
            rw [this]
            simp only [lNext, mNext, Th.en, hlf]
            rfl))
          clear hte hsp
          have HN : Hid (∀ w1, Calls Tryz.prog 29 #[.string s, .int .i64 q] w1 fun e' w' => e' = .returned (.agg #[.int .i64 (-3), .int .i64 ((e - q : Nat)), .int .i64 (0)]) ∧ Below w1.heap.size w1 w') := Lib.hid (fun w1 => (next26_any s q w1 hs hq).mono (fun e2 w2 hh => ⟨by rw [hh.1, hth]; simp only [nextV, hlf]; rfl, hh.2⟩))
          clear hth hlf
          go_wp2_with fail
          refine (HN.out _).mono ?_
          rintro e1 w1 ⟨rfl, hB1⟩
          have HR1 := Lib.hid (HR.out.below hB1)
          have HB1 := Lib.hid (HB.out.trans (hB1.mono HB.out.size))
          clear hB1
          have hbx := boxT_made w1 (.int .i64 (-3)) (.int .i64 ((e - q : Nat))) (.int .i64 (0))
          have HX := Lib.hid (Rb.make HR1.out hbx)
          have HBb := Lib.hid (HB1.out.trans (hbx.b.mono HB1.out.size))
          have c0 := block_cell hbx.k 0
          have c1 := block_cell hbx.k 1
          have c2 := block_cell hbx.k 2
          clear hbx
          go_wp2_with (first | (at_builtin; go_must (refine wpList_append_gen2 eltT rfl (.tmp 52) (.tmp 62) rfl rfl w.heap.size _ M rfl (HX.out.below ((Below.refl _ _).alloc (Nat.le_refl _) _)).r.ou _ [(0, s.extract q e, q)] (LAt.block rfl rfl (box_new2 _ _ _)) rfl (by simp only [List.length_cons, List.length_nil]; omega) (by unfold maxLen; simp only [List.length_cons, List.length_nil]; omega) ((HX.out.below ((Below.refl _ _).alloc (Nat.le_refl _) _)).r.hb) ?_); intro va wa hoa hga haa; have hgr := (HX.out.below ((Below.refl _ _).alloc (Nat.le_refl _) _)).growU hoa hga (haa.imp id (fun h => ⟨_, h, Nat.le_refl _⟩)); have HG := Lib.hid hgr.1; have HGB := Lib.hid ((HBb.out.alloc HBb.out.size _).trans hgr.2); have d0 := block_cell hgr.1.k 0; have d1 := block_cell hgr.1.k 1; clear hoa hga haa hgr))
          go_roundg (s.size - (e))
          case measure => omega
          case rel => exact ⟨e, T, M ++ [(0, s.extract q e, q)], by omega, by go_num, Lib.hid HG.out.r, HE2, by omega, by rw [List.length_append]; simp only [List.length_cons, List.length_nil]; omega, HGB⟩
      | tok c e =>
        have he : q < e ∧ e ≤ s.size := by
          have := hte.2 (by rw [hth]; rfl)
          rw [hth] at this
          exact ⟨this.1, this.2.1⟩
        have hsum : (q : Int) + ((e - q : Nat) : Int) = e := by omega
        have hqe : (q : Int) ≤ (e : Int) := by omega
        have heI : (e : Int) ≤ (s.size : Int) := by omega
        have hxs : (s.extract q e).size ≤ 1048576 := by rw [ByteArray.size_extract]; omega
        have hc := hsp c e hth
        have Hsl := Lib.hid (slice_str s q e (by omega) he.2)
        have Hw := Lib.hid (show IntKind.i64.wrap (e : Int) = (e : Int) by simp [IntKind.wrap, IntKind.bits, IntKind.signed]; omega)
        have u7 : ((c : Int) == 7) = false := beq_eq_false_iff_ne.2 (by omega)
        have u1 : ((c : Int) == -1) = false := beq_eq_false_iff_ne.2 (by omega)
        have u2 : ((c : Int) == -2) = false := beq_eq_false_iff_ne.2 (by omega)
        have u3 : ((c : Int) == -3) = false := beq_eq_false_iff_ne.2 (by omega)
        have u4 : ((c : Int) == -4) = false := beq_eq_false_iff_ne.2 (by omega)
        have HE2 := Lib.hid (HE.out.trans (show lexT s q T M = lexT s e (T ++ [(c, s.extract q e, q)]) M from by
          have := lexT_step hq (show (thing s q).ok = true by rw [hth]; rfl) T M
          rw [hth] at this
          exact this))
        clear hte hsp hc
        have HN : Hid (∀ w1, Calls Tryz.prog 29 #[.string s, .int .i64 q] w1 fun e' w' => e' = .returned (.agg #[.int .i64 ((c : Nat)), .int .i64 ((e - q : Nat)), .int .i64 (0)]) ∧ Below w1.heap.size w1 w') := Lib.hid (fun w1 => (next26_any s q w1 hs hq).mono (fun e2 w2 hh => ⟨by rw [hh.1, hth]; rfl, hh.2⟩))
        clear hth
        go_wp2_with fail
        refine (HN.out _).mono ?_
        rintro e1 w1 ⟨rfl, hB1⟩
        have HR1 := Lib.hid (HR.out.below hB1)
        have HB1 := Lib.hid (HB.out.trans (hB1.mono HB.out.size))
        clear hB1
        have hbx := boxT_made w1 (.int .i64 ((c : Nat))) (.int .i64 ((e - q : Nat))) (.int .i64 (0))
        have HX := Lib.hid (Rb.make HR1.out hbx)
        have HBb := Lib.hid (HB1.out.trans (hbx.b.mono HB1.out.size))
        have c0 := block_cell hbx.k 0
        have c1 := block_cell hbx.k 1
        have c2 := block_cell hbx.k 2
        clear hbx
        go_wp2_with fail
        generalize w1.alloc (.cells #[.int .i64 ((c : Nat)), .int .i64 ((e - q : Nat)), .int .i64 (0)] 67) = wb at *
        clear c0 c2
        have hd4 : Below wb.heap.size wb wb.drew := (Below.refl _ _).drew
        have hRL : ∃ Rs : List (Value → World → Prop), Rs = [RbE w.heap.size w1.heap.size (.int .i64 (c : Nat)) (.int .i64 (e - q : Nat)) (.int .i64 0) T M (.slice pv T.length cv) (.slice pu M.length cu),
            K3.PureV (.pointer (some ⟨w1.heap.size, 0, none⟩)),
            K3.PureV (.int .i64 (c : Nat)),
            K3.PureV (.string s),
            K3.PureV (.int .i64 (q : Nat)),
            K3.PureV (.int .i64 (q : Nat)),
            K3.PureV (.pointer (some ⟨w1.heap.size, 1, none⟩)),
            K3.PureV (.int .i64 (e - q : Nat)),
            K3.PureV (.int .i64 (e : Nat)),
            K3.PureV (.string (s.extract q e)),
            K3.PureV (.int .i64 (q : Nat)),
            K3.PureV (.agg (tkV (c, s.extract q e, q)).toArray),
            K3.NewB 1 (tkV (c, s.extract q e, q)).toArray 35,
            RbW w.heap.size w1.heap.size (.int .i64 (c : Nat)) (.int .i64 (e - q : Nat)) (.int .i64 0) (T ++ [(c, s.extract q e, q)]) M (.slice pu M.length cu),
            RbW w.heap.size w1.heap.size (.int .i64 (c : Nat)) (.int .i64 (e - q : Nat)) (.int .i64 0) (T ++ [(c, s.extract q e, q)]) M (.slice pu M.length cu)] := ⟨_, rfl⟩
        obtain ⟨Rs, hRs⟩ := hRL
        refine K3.wp_region_rel2 w.heap.size HBb.out.size (K3.RL Rs) [1, 2, 2, 2, 2, 2, 2, 2, 2, 2, 2, 2, 1, 1, 1] [1, 1, 1, 1, 1, 1, 1, 1, 1, 1, 1, 1, 1, 2, 1] [[], [], [], [], [], [], [], [], [], [], [], [], [], [0, 12], []] (by kernel_rfl) (by kernel_rfl) (K3.RL.st1 (by rw [hRs]; exact K3.st1_cons (RbE.st1 _ _ _ _ _ _ _ _ _) (K3.st1_cons (K3.PureV.st1 _) (K3.st1_cons (K3.PureV.st1 _) (K3.st1_cons (K3.PureV.st1 _) (K3.st1_cons (K3.PureV.st1 _) (K3.st1_cons (K3.PureV.st1 _) (K3.st1_cons (K3.PureV.st1 _) (K3.st1_cons (K3.PureV.st1 _) (K3.st1_cons (K3.PureV.st1 _) (K3.st1_cons (K3.PureV.st1 _) (K3.st1_cons (K3.PureV.st1 _) (K3.st1_cons (K3.PureV.st1 _) (K3.st1_cons (K3.NewB.st1 _ _ _) (K3.st1_cons (RbW.st1 _ _ _ _ _ _ _ _) (K3.st1_cons (RbW.st1 _ _ _ _ _ _ _ _) (K3.st1_nil))))))))))))))))) (K3.RL.st2 (by rw [hRs]; exact K3.st2_skip (K3.st2_cons (K3.PureV.st2 _ _ _) (K3.st2_cons (K3.PureV.st2 _ _ _) (K3.st2_cons (K3.PureV.st2 _ _ _) (K3.st2_cons (K3.PureV.st2 _ _ _) (K3.st2_cons (K3.PureV.st2 _ _ _) (K3.st2_cons (K3.PureV.st2 _ _ _) (K3.st2_cons (K3.PureV.st2 _ _ _) (K3.st2_cons (K3.PureV.st2 _ _ _) (K3.st2_cons (K3.PureV.st2 _ _ _) (K3.st2_cons (K3.PureV.st2 _ _ _) (K3.st2_cons (K3.PureV.st2 _ _ _) (K3.st2_skip (K3.st2_skip (K3.st2_skip (K3.st2_nil))))))))))))))))) ?_ ?_ ?_
        · intro i o d hi hd
          have hmem := List.mem_of_getElem? hi
          simp only [List.mem_cons, List.not_mem_nil, or_false] at hmem
          rcases hmem with rfl | rfl | rfl | rfl | rfl | rfl | rfl | rfl | rfl | rfl | rfl | rfl | rfl | rfl | rfl <;> simp at hd <;> (subst hd; simp)
        · refine K3.rel_start (Φ := K3.Hop _ _ _ _ _ _ _) ?_
          refine K3.rel_cons (Φ := K3.Hop _ _ _ _ _ _ _) (k := 0) ?_ ?_
          · intro fa fw hfB hfN hfE hfk hft
            have hE : Below wb.drew.heap.size wb.drew fw := hfE (by kernel_rfl)
            have k4 : fa.eval (.tmp 4) = .slice pv T.length cv := hft 4 (K3.mem_looks (by kernel_rfl)) (K3.noneed (by kernel_rfl))
            rw [hRs]
            refine K3.hop_plain rfl ?_
            refine K3.out_move rfl ?_
            exact ⟨⟨k4, (HX.out.below hd4).below hE⟩, Below.refl _ _⟩
          refine K3.rel_cons (Φ := K3.Hop _ _ _ _ _ _ _) (k := 1) ?_ ?_
          · intro fa fw hfB hfN hfE hfk hft
            have k7 : fa.eval (.tmp 7) = .pointer (some ⟨w1.heap.size, 0, none⟩) := hft 7 (K3.mem_looks (by kernel_rfl)) (K3.noneed (by kernel_rfl))
            rw [hRs]
            refine K3.hop_plain rfl ?_
            generalize fa.eval = ρ at *
            exact K3.out_run (v := .pointer (some ⟨w1.heap.size, 0, none⟩)) (w' := fw) (by simp [execOp, k7, go_sem]) ⟨rfl, Below.refl _ _⟩
          refine K3.rel_cons (Φ := K3.Hop _ _ _ _ _ _ _) (k := 2) ?_ ?_
          · intro fa fw hfB hfN hfE hfk hft
            have hE : Below wb.drew.heap.size wb.drew fw := hfE (by kernel_rfl)
            have k20 : fa.eval (.tmp 20) = (.pointer (some ⟨w1.heap.size, 0, none⟩)) := by have := hfk 1 (K3.mem_needs (by kernel_rfl)) _ rfl; rw [hRs] at this; exact this
            rw [hRs]
            refine K3.hop_plain rfl ?_
            have hbx := ((HX.out.below hd4).below hE).k
            exact out_load3 rfl k20 (by simp [go_sem, block_cell hbx]) ⟨rfl, Below.refl _ _⟩
          refine K3.rel_cons (Φ := K3.Hop _ _ _ _ _ _ _) (k := 3) ?_ ?_
          · intro fa fw hfB hfN hfE hfk hft
            have k0 : fa.eval (.tmp 0) = .string s := hft 0 (K3.mem_looks (by kernel_rfl)) (K3.noneed (by kernel_rfl))
            rw [hRs]
            refine K3.hop_plain rfl ?_
            refine K3.out_move rfl ?_
            exact ⟨k0, Below.refl _ _⟩
          refine K3.rel_cons (Φ := K3.Hop _ _ _ _ _ _ _) (k := 4) ?_ ?_
          · intro fa fw hfB hfN hfE hfk hft
            have k6 : fa.eval (.tmp 6) = .int .i64 (q : Nat) := hft 6 (K3.mem_looks (by kernel_rfl)) (K3.noneed (by kernel_rfl))
            rw [hRs]
            refine K3.hop_plain rfl ?_
            refine K3.out_move rfl ?_
            exact ⟨k6, Below.refl _ _⟩
          refine K3.rel_cons (Φ := K3.Hop _ _ _ _ _ _ _) (k := 5) ?_ ?_
          · intro fa fw hfB hfN hfE hfk hft
            have k6 : fa.eval (.tmp 6) = .int .i64 (q : Nat) := hft 6 (K3.mem_looks (by kernel_rfl)) (K3.noneed (by kernel_rfl))
            rw [hRs]
            refine K3.hop_plain rfl ?_
            refine K3.out_move rfl ?_
            exact ⟨k6, Below.refl _ _⟩
          refine K3.rel_cons (Φ := K3.Hop _ _ _ _ _ _ _) (k := 6) ?_ ?_
          · intro fa fw hfB hfN hfE hfk hft
            have k7 : fa.eval (.tmp 7) = .pointer (some ⟨w1.heap.size, 0, none⟩) := hft 7 (K3.mem_looks (by kernel_rfl)) (K3.noneed (by kernel_rfl))
            rw [hRs]
            refine K3.hop_plain rfl ?_
            generalize fa.eval = ρ at *
            exact K3.out_run (v := .pointer (some ⟨w1.heap.size, 1, none⟩)) (w' := fw) (by simp [execOp, k7, go_sem]) ⟨rfl, Below.refl _ _⟩
          refine K3.rel_cons (Φ := K3.Hop _ _ _ _ _ _ _) (k := 7) ?_ ?_
          · intro fa fw hfB hfN hfE hfk hft
            have hE : Below wb.drew.heap.size wb.drew fw := hfE (by kernel_rfl)
            have k25 : fa.eval (.tmp 25) = (.pointer (some ⟨w1.heap.size, 1, none⟩)) := by have := hfk 6 (K3.mem_needs (by kernel_rfl)) _ rfl; rw [hRs] at this; exact this
            rw [hRs]
            refine K3.hop_plain rfl ?_
            have hbx := ((HX.out.below hd4).below hE).k
            exact out_load3 rfl k25 (by simp [go_sem, block_cell hbx]) ⟨rfl, Below.refl _ _⟩
          refine K3.rel_cons (Φ := K3.Hop _ _ _ _ _ _ _) (k := 8) ?_ ?_
          · intro fa fw hfB hfN hfE hfk hft
            have k24 : fa.eval (.tmp 24) = (.int .i64 (q : Nat)) := by have := hfk 5 (K3.mem_needs (by kernel_rfl)) _ rfl; rw [hRs] at this; exact this
            have k26 : fa.eval (.tmp 26) = (.int .i64 (e - q : Nat)) := by have := hfk 7 (K3.mem_needs (by kernel_rfl)) _ rfl; rw [hRs] at this; exact this
            rw [hRs]
            refine K3.hop_plain rfl ?_
            generalize fa.eval = ρ at *
            exact K3.out_run (v := .int .i64 (e : Nat)) (w' := fw) (by simp [execOp, k24, k26, go_sem, hsum, Hw.out]) ⟨rfl, Below.refl _ _⟩
          refine K3.rel_cons (Φ := K3.Hop _ _ _ _ _ _ _) (k := 9) ?_ ?_
          · intro fa fw hfB hfN hfE hfk hft
            have k22 : fa.eval (.tmp 22) = (.string s) := by have := hfk 3 (K3.mem_needs (by kernel_rfl)) _ rfl; rw [hRs] at this; exact this
            have k23 : fa.eval (.tmp 23) = (.int .i64 (q : Nat)) := by have := hfk 4 (K3.mem_needs (by kernel_rfl)) _ rfl; rw [hRs] at this; exact this
            have k27 : fa.eval (.tmp 27) = (.int .i64 (e : Nat)) := by have := hfk 8 (K3.mem_needs (by kernel_rfl)) _ rfl; rw [hRs] at this; exact this
            rw [hRs]
            refine K3.hop_plain rfl ?_
            generalize fa.eval = ρ at *
            exact K3.out_run (v := .string (s.extract q e)) (w' := fw) (by unfold execOp; simp only [Option.map, k22, k23, k27, Sem.run_bind, Hsl.out, Result.andThen_ok, Sem.run_pure]) ⟨rfl, Below.refl _ _⟩
          refine K3.rel_cons (Φ := K3.Hop _ _ _ _ _ _ _) (k := 10) ?_ ?_
          · intro fa fw hfB hfN hfE hfk hft
            have k6 : fa.eval (.tmp 6) = .int .i64 (q : Nat) := hft 6 (K3.mem_looks (by kernel_rfl)) (K3.noneed (by kernel_rfl))
            rw [hRs]
            refine K3.hop_plain rfl ?_
            refine K3.out_move rfl ?_
            exact ⟨k6, Below.refl _ _⟩
          refine K3.rel_cons (Φ := K3.Hop _ _ _ _ _ _ _) (k := 11) ?_ ?_
          · intro fa fw hfB hfN hfE hfk hft
            have k21 : fa.eval (.tmp 21) = (.int .i64 (c : Nat)) := by have := hfk 2 (K3.mem_needs (by kernel_rfl)) _ rfl; rw [hRs] at this; exact this
            have k28 : fa.eval (.tmp 28) = (.string (s.extract q e)) := by have := hfk 9 (K3.mem_needs (by kernel_rfl)) _ rfl; rw [hRs] at this; exact this
            have k29 : fa.eval (.tmp 29) = (.int .i64 (q : Nat)) := by have := hfk 10 (K3.mem_needs (by kernel_rfl)) _ rfl; rw [hRs] at this; exact this
            rw [hRs]
            refine K3.hop_plain rfl ?_
            generalize fa.eval = ρ at *
            exact K3.out_run (v := .agg (tkV (c, s.extract q e, q)).toArray) (w' := fw) (by unfold execOp; simp only [List.map_toArray, List.map_cons, List.map_nil, k21, k28, k29, Sem.run_bind, build_tk, Result.andThen_ok, Sem.run_pure]) ⟨rfl, Below.refl _ _⟩
          refine K3.rel_cons (Φ := K3.Hop _ _ _ _ _ _ _) (k := 12) ?_ ?_
          · intro fa fw hfB hfN hfE hfk hft
            have k30 : fa.eval (.tmp 30) = (.agg (tkV (c, s.extract q e, q)).toArray) := by have := hfk 11 (K3.mem_needs (by kernel_rfl)) _ rfl; rw [hRs] at this; exact this
            rw [hRs]
            refine K3.hop_plain rfl ?_
            exact out_buildSlice3 rfl (by simp only [List.map_toArray, List.map_cons, List.map_nil, k30]) (slice_tk fw (c, s.extract q e, q)) ⟨⟨_, rfl, heap_alloc_new _ _⟩, (Below.refl _ _).alloc (Nat.le_refl _) _⟩
          refine K3.rel_cons (Φ := K3.Hop _ _ _ _ _ _ _) (k := 13) ?_ ?_
          · intro fa fw hfB hfN hfE hfk hft
            have k19 : (RbE w.heap.size w1.heap.size (.int .i64 (c : Nat)) (.int .i64 (e - q : Nat)) (.int .i64 0) T M (.slice pv T.length cv) (.slice pu M.length cu)) (fa.eval (.tmp 19)) fw := by have := hfk 0 (K3.mem_needs (by kernel_rfl)) _ rfl; rw [hRs] at this; exact this
            have k31 : (K3.NewB 1 (tkV (c, s.extract q e, q)).toArray 35) (fa.eval (.tmp 31)) fw := by have := hfk 12 (K3.mem_needs (by kernel_rfl)) _ rfl; rw [hRs] at this; exact this
            rw [hRs]
            refine K3.hop_plain rfl ?_
            obtain ⟨hv0, hb0⟩ := k19
            obtain ⟨B1, hb1, hb2⟩ := k31
            obtain ⟨v', w', hr, ho, hg, ha⟩ := run_append_gen2 eltT fw w.heap.size _ _ _ _ [(c, s.extract q e, q)] hb0.r.ov (LAt.block rfl rfl hb2) (by simp only [List.length_cons, List.length_nil]; omega) (by unfold maxLen; simp only [List.length_cons, List.length_nil]; omega) hb0.r.hb
            obtain ⟨q1, q2⟩ := hb0.growV (T' := T ++ [(c, s.extract q e, q)]) (by rw [List.length_append, LF_app]; exact ho) hg (ha.imp id (fun h => ⟨_, h, Nat.le_refl _⟩))
            exact out_append_k3 (.tmp 19) (.tmp 31) 32 rfl hv0 hb1 hr ⟨⟨q1⟩, q2⟩
          refine K3.rel_cons (Φ := K3.Hop _ _ _ _ _ _ _) (k := 14) ?_ ?_
          · intro fa fw hfB hfN hfE hfk hft
            have k32 : (RbW w.heap.size w1.heap.size (.int .i64 (c : Nat)) (.int .i64 (e - q : Nat)) (.int .i64 0) (T ++ [(c, s.extract q e, q)]) M (.slice pu M.length cu)) (fa.eval (.tmp 32)) fw := by have := hfk 13 (K3.mem_needs (by kernel_rfl)) _ rfl; rw [hRs] at this; exact this
            rw [hRs]
            refine K3.hop_plain rfl ?_
            refine K3.out_assign rfl ?_
            exact ⟨k32, Below.refl _ _⟩
          exact K3.rel_nil
        · intro fa fw hfB hfy hff hfs hfd
          rw [hRs] at hfy
          have k4 : RbW w.heap.size w1.heap.size (.int .i64 (c : Nat)) (.int .i64 (e - q : Nat)) (.int .i64 0) (T ++ [(c, s.extract q e, q)]) M (.slice pu M.length cu) (fa.tmps.getD 4 undef) fw := hfy 14 _ rfl (K3.unkilled (by decide))
          have hBf : Below w.heap.size w fw := HBb.out.trans ((hd4.mono HBb.out.size).trans hfB)
          have e := K3.rel_frame [19, 20, 21, 22, 23, 24, 25, 26, 27, 28, 29, 30, 31, 32, 4] (by kernel_rfl) hff hfs hfd
          simp only [List.foldl] at e
          clear hfy hff hfs hfd 
          generalize fa.tmps.getD 19 undef = x19 at e
          generalize fa.tmps.getD 20 undef = x20 at e
          generalize fa.tmps.getD 21 undef = x21 at e
          generalize fa.tmps.getD 22 undef = x22 at e
          generalize fa.tmps.getD 23 undef = x23 at e
          generalize fa.tmps.getD 24 undef = x24 at e
          generalize fa.tmps.getD 25 undef = x25 at e
          generalize fa.tmps.getD 26 undef = x26 at e
          generalize fa.tmps.getD 27 undef = x27 at e
          generalize fa.tmps.getD 28 undef = x28 at e
          generalize fa.tmps.getD 29 undef = x29 at e
          generalize fa.tmps.getD 30 undef = x30 at e
          generalize fa.tmps.getD 31 undef = x31 at e
          generalize fa.tmps.getD 32 undef = x32 at e
          generalize fa.tmps.getD 4 undef = x4 at e k4
          simp [List.setIfInBounds_toArray, List.set_cons_succ, List.set_cons_zero] at e
          subst e
          have HG := Lib.hid k4.b
          have HGB := Lib.hid hBf
          have d1 := block_cell k4.b.k 1
          clear k4 hBf hd4
          go_wp2_with fail
          go_roundg (s.size - (e))
          case measure => omega
          case rel => exact ⟨e, T ++ [(c, s.extract q e, q)], M, by omega, by go_num, Lib.hid HG.out.r, HE2, by rw [List.length_append]; simp only [List.length_cons, List.length_nil]; omega, by omega, HGB⟩
    · have hqI : ¬ (q : Int) < (s.size : Int) := by omega
      have HE2 := Lib.hid (HL.out q T M HE.out)
      rw [lexT_out hq T M] at HE2
      obtain rfl : q = s.size := by omega
      have hfl := (feedL_len T s.size).2
      go_wp2_with fail
      refine (refFeed_any w.heap.size _ T s.size _ HR.out.ov HR.out.hb (by omega)).mono ?_
      rintro e1 w1 ⟨v', rfl, hoa, hga, haa⟩
      have hgr := HR.out.growV hoa hga haa
      have HR2 := Lib.hid hgr.1
      have HB2 := Lib.hid (HB.out.trans hgr.2)
      clear hoa hga haa hgr
      go_wp2_with (first | (at_builtin; go_must (refine wpList_append_gen2 eltT rfl (.tmp 76) (.tmp 79) rfl rfl w.heap.size _ (feedL T s.size) rfl (HR2.out.below ((Below.refl _ _).alloc (Nat.le_refl _) _)).ov _ [(0, ⟨#[]⟩, s.size)] (LAt.block rfl rfl (heap_alloc_new _ _)) rfl (by simp only [List.length_cons, List.length_nil]; omega) (by unfold maxLen; simp only [List.length_cons, List.length_nil]; omega) ((HR2.out.below ((Below.refl _ _).alloc (Nat.le_refl _) _)).hb) ?_); intro va wa hoa hga haa; have hgr := (HR2.out.below ((Below.refl _ _).alloc (Nat.le_refl _) _)).growV hoa hga (haa.imp id (fun h => ⟨_, h, Nat.le_refl _⟩)); have HG := Lib.hid hgr.1; have HGB := Lib.hid ((HB2.out.alloc HB2.out.size _).trans hgr.2);  clear hoa hga haa hgr))
      go_ret2
      exact ⟨_, _, rfl, by rw [HE2.out.1]; exact LAt.own (fun y _ => tkV_len y) HG.out.ov, by rw [HE2.out.2]; exact LAt.own (fun y _ => tkV_len y) HG.out.ou, HGB.out⟩
end Go.Proofs.YtejogobhnbjpdaaGreatDoor
