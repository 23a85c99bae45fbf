/- Walks: the document's comments of more than a line. -/
import Derived.Test.YtejogobhnbjpdaaGreatDoorRc
namespace Go.Proofs.YtejogobhnbjpdaaGreatDoor
set_option linter.unusedVariables false
set_option linter.unusedSimpArgs false
open Go.ChangeShapes Go.WideShapes Go.ChangeAt Go.RowKit

def manyV (s : ByteArray) (q : Nat) : Rs → Value | .inl f => thV 7 0 f | .inr e => thV (if hasLF s q e = true then -4 else -3) (e - q) 0
set_option maxRecDepth 100000 in
set_option maxHeartbeats 4000000 in
theorem refMany_any (s : ByteArray) (at_ : Nat) (w : World) (hs : s.size ≤ 1048576) (ha : at_ ≤ s.size) (hp : pre s at_ [47, 42] = true) :
    Calls Tryz.prog 52 #[.string s, .int .i64 at_] w fun e w' => e = .returned (manyV s at_ (closedR s [42, 47] at_ (at_ + 2))) ∧ Below w.heap.size w w' := by
  have h2 := (pre2 s at_ 47 42 ha).1 hp
  have e47 : (47 : UInt8).toNat = 47 := rfl
  have e42 : (42 : UInt8).toNat = 42 := rfl
  have hq1 : at_ + 1 < s.size := by omega
  have hq1I : (at_ : Int) + 1 < (s.size : Int) := by omega
  have htn : ((at_ : Int) + 1).toNat = at_ + 1 := by omega
  have hb1 := byt_at3 s (at_ + 1) hq1
  have h47 : (((s[at_ + 1]'hq1).toNat : Int) == 47) = false := beq_eq_false_iff_ne.2 (by rw [hb1]; have h := h2.2.2; omega)
  have Hb := Lib.hid (show at_ + 2 ≤ s.size ∧ byt s at_ = 47 ∧ byt s (at_ + 1) = 42 from ⟨h2.1, by omega, by omega⟩)
  have hnew := heap_alloc_new w (.cells #[.int .i64 0, .int .i64 0, .int .i64 0] 67)
  have hBa := (Below.refl w.heap.size w).alloc (Nat.le_refl _) (.cells #[.int .i64 0, .int .i64 0, .int .i64 0] 67)
  have Hnew := Lib.hid hnew
  have HBa := Lib.hid hBa
  clear hnew hBa hb1 h2 hp e47 e42
  go_enter Tryz.func52, Tryz.ntmps52
  go_wp2_with fail
  generalize w.alloc (.cells #[.int .i64 0, .int .i64 0, .int .i64 0] 67) = wa at *
  have Hlt := Lib.hid (lt_of_block Hnew.out)
  go_loopg [6, 7] (s.size - at_) (fun g fv iv wr => ∃ q : Nat, at_ ≤ q ∧ q + g = s.size ∧ fv = .bool (hasLF s at_ q) ∧ iv = .int .i64 q ∧ ((q < at_ + 2 ∧ hasLF s at_ q = false) ∨ (at_ + 2 ≤ q ∧ closedR s [42, 47] at_ (at_ + 2) = closedR s [42, 47] at_ q)) ∧ Below wa.heap.size wa wr)
  case atStart => exact ⟨at_, Nat.le_refl _, by omega, by unfold hasLF; rw [Nat.sub_self]; rfl, rfl, .inl ⟨by omega, by unfold hasLF; rw [Nat.sub_self]; rfl⟩, Below.refl _ _⟩
  case round =>
    obtain ⟨q, haq, hqg, rfl, rfl, hE, hBr⟩ := hrel
    have HR := Lib.hid (fun w1 => refRune_any s q w1 (by omega))
    have HBr := Lib.hid hBr
    have hblk := (hBr.block w.heap.size Hlt.out).trans Hnew.out
    have HBk := Lib.hid hblk
    clear hBr hblk
    obtain ⟨b, hb⟩ : ∃ b, b = hasLF s at_ q := ⟨_, rfl⟩
    rw [← hb] at hE
    rw [← hb]
    by_cases hq : q < s.size
    · have hqI : (q : Int) < (s.size : Int) := by omega
      have hr := runeAt_range s q hq
      rw [rn_in hq] at HR
      have HL := Lib.hid (fun h0 : 0 ≤ (runeAt s q).1 => show hasLF s at_ (q + (runeAt s q).2) = (b || decide ((runeAt s q).1 = 10)) by rw [hasLF_split haq (show q ≤ q + (runeAt s q).2 by omega), ← hb, hasLF_rune hq h0])
      have Hb2 := Lib.hid hb
      clear hb
      rcases hE with ⟨hlt, rfl⟩ | ⟨hge, hE⟩
      · have hby : byt s q = 47 ∨ byt s q = 42 := by
          rcases (by omega : q = at_ ∨ q = at_ + 1) with rfl | rfl
          · exact .inl Hb.out.2.1
          · exact .inr Hb.out.2.2
        have hru := rune_low hq rfl (by omega : 0 < byt s q) (by omega)
        have h1 : (runeAt s q).1 = (byt s q : Int) := by rw [hru]
        have hk : (runeAt s q).2 = 1 := by rw [hru]
        have h0 : ¬ (runeAt s q).1 < 0 := by omega
        have e10 : ((runeAt s q).1 == 10) = false := beq_eq_false_iff_ne.2 (by omega)
        have HL2 := Lib.hid (show hasLF s at_ (q + (runeAt s q).2) = false by rw [HL.out (by omega), decide_eq_false (by omega)]; rfl)
        have hI : ¬ (at_ : Int) + 2 ≤ (q : Int) := by omega
        have Hend := Lib.hid (show (q + (runeAt s q).2 < at_ + 2 ∧ hasLF s at_ (q + (runeAt s q).2) = false) ∨ (at_ + 2 ≤ q + (runeAt s q).2 ∧ closedR s [42, 47] at_ (at_ + 2) = closedR s [42, 47] at_ (q + (runeAt s q).2)) by
          rw [hk]
          rcases (by omega : q = at_ ∨ q = at_ + 1) with e | e
          · exact .inl ⟨by omega, by have := HL2.out; rw [hk] at this; exact this⟩
          · exact .inr ⟨by omega, by rw [show q + 1 = at_ + 2 by omega]⟩)
        clear hru h1 hby
        go_wp2_with fail
        refine (HR.out _).mono ?_
        rintro e w1 ⟨rfl, hB1⟩
        have HB := Lib.hid (HBr.out.trans (hB1.mono HBr.out.size))
        clear hB1
        go_wp2_with fail
        go_roundg (gk - (runeAt s q).2)
        case measure => omega
        case rel => exact ⟨q + (runeAt s q).2, by omega, by omega, by rw [HL2.out], by go_num, Hend.out, HB.out⟩
      · have hI : (at_ : Int) + 2 ≤ (q : Int) := by omega
        have HBg := Lib.hid (fun w1 => begins_any s ⟨#[42, 47]⟩ q w1 hs (by decide) (Nat.le_of_lt hq))
        have hp1 : pre s q (⟨#[42, 47]⟩ : ByteArray).data.toList = pre s q [42, 47] := rfl
        rw [hp1] at HBg
        have HE := Lib.hid (show closedR s [42, 47] at_ q = if (runeAt s q).1 < 0 then .inl q else if pre s q [42, 47] = true then .inr (q + 2) else closedR s [42, 47] at_ (q + (runeAt s q).2) by rw [closedR, dif_pos hq]; rfl)
        have Hp := Lib.hid (fun h : pre s q [42, 47] = true => show ¬ (runeAt s q).1 < 0 ∧ hasLF s at_ (q + 2) = b ∧ q + 2 ≤ s.size by
          have h3 := (pre2 s q 42 47 (Nat.le_of_lt hq)).1 h
          have e47 : (47 : UInt8).toNat = 47 := rfl
          have e42 : (42 : UInt8).toNat = 42 := rfl
          have hru := rune_low hq rfl (by omega : 0 < byt s q) (by omega)
          have h1 : (runeAt s q).1 = (byt s q : Int) := by rw [hru]
          refine ⟨by omega, ?_, h3.1⟩
          rw [hasLF_split haq (show q ≤ q + 2 by omega), ← Hb2.out]
          have : hasLF s q (q + 2) = false := by
            apply Bool.eq_false_iff.2
            intro hx
            unfold hasLF at hx
            rw [List.any_eq_true] at hx
            obtain ⟨i, hi, hb⟩ := hx
            have := List.mem_range.1 hi
            have hb := of_decide_eq_true hb
            rcases (by omega : i = 0 ∨ i = 1) with rfl | rfl
            · rw [Nat.add_zero] at hb; omega
            · omega
          rw [this, Bool.or_false])
        have Hat := Lib.hid hE
        clear hE hp1
        generalize pre s q [42, 47] = b1 at *
        cases b1 with
        | true =>
          have hp := Hp.out rfl
          have HE2 := Lib.hid (show closedR s [42, 47] at_ q = .inr (q + 2) by rw [HE.out, if_neg hp.1, if_pos rfl])
          have HL2 := Lib.hid hp.2.1
          clear hp
          cases b with
          | true =>
            go_wp2_with fail
            refine (HBg.out _).mono ?_
            rintro e w1 ⟨rfl, rfl⟩
            have c0 := block_cell HBk.out 0
            have c1 := block_cell HBk.out 1
            have c2 := block_cell HBk.out 2
            have f0 := block_free HBk.out 0
            have f1 := block_free HBk.out 1
            have f2 := block_free HBk.out 2
            go_wp2_with fail
            exact ret39 _ _ _ _ _ HBk.out rfl rfl ⟨by rw [Hat.out, HE2.out]; simp only [manyV, thV, HL2.out, if_true]; go_num, below_set3 (HBa.out.trans (HBr.out.mono HBa.out.size)) HBk.out (Nat.le_refl _) _ _ _⟩
          | false =>
            go_wp2_with fail
            refine (HBg.out _).mono ?_
            rintro e w1 ⟨rfl, rfl⟩
            have c0 := block_cell HBk.out 0
            have c1 := block_cell HBk.out 1
            have c2 := block_cell HBk.out 2
            have f0 := block_free HBk.out 0
            have f1 := block_free HBk.out 1
            have f2 := block_free HBk.out 2
            go_wp2_with fail
            exact ret39 _ _ _ _ _ HBk.out rfl rfl ⟨by rw [Hat.out, HE2.out]; simp only [manyV, thV, HL2.out, Bool.false_eq_true, if_false]; go_num, below_set3 (HBa.out.trans (HBr.out.mono HBa.out.size)) HBk.out (Nat.le_refl _) _ _ _⟩
        | false =>
          by_cases h0 : (runeAt s q).1 < 0
          · have HE2 := Lib.hid (show closedR s [42, 47] at_ q = .inl q by rw [HE.out, if_pos h0])
            go_wp2_with fail
            refine (HBg.out _).mono ?_
            rintro e w1 ⟨rfl, rfl⟩
            go_wp2_with fail
            refine (HR.out _).mono ?_
            rintro e w1 ⟨rfl, hB1⟩
            have HB := Lib.hid (HBr.out.trans (hB1.mono HBr.out.size))
            have hbk1 := (HB.out.block w.heap.size Hlt.out).trans Hnew.out
            have HBk1 := Lib.hid hbk1
            have c0 := block_cell hbk1 0
            have c1 := block_cell hbk1 1
            have c2 := block_cell hbk1 2
            have f0 := block_free hbk1 0
            have f1 := block_free hbk1 1
            have f2 := block_free hbk1 2
            clear hB1 hbk1
            go_wp2_with fail
            exact ret39 _ _ _ _ _ HBk1.out rfl rfl ⟨by rw [Hat.out, HE2.out]; rfl, below_set3 (HBa.out.trans (HB.out.mono HBa.out.size)) HBk1.out (Nat.le_refl _) _ _ _⟩
          · have HE2 := Lib.hid (show closedR s [42, 47] at_ q = closedR s [42, 47] at_ (q + (runeAt s q).2) by rw [HE.out, if_neg h0, if_neg (by decide)])
            have HL2 := Lib.hid (HL.out (by omega))
            cases b with
            | true =>
              go_wp2_with fail
              refine (HBg.out _).mono ?_
              rintro e w1 ⟨rfl, rfl⟩
              go_wp2_with fail
              refine (HR.out _).mono ?_
              rintro e w1 ⟨rfl, hB1⟩
              have HB := Lib.hid (HBr.out.trans (hB1.mono HBr.out.size))
              clear hB1
              go_wp2_with fail
              go_roundg (gk - (runeAt s q).2)
              case measure => omega
              case rel => exact ⟨q + (runeAt s q).2, by omega, by omega, by rw [HL2.out]; rfl, by go_num, .inr ⟨by omega, Hat.out.trans HE2.out⟩, HB.out⟩
            | false =>
              go_wp2_with fail
              refine (HBg.out _).mono ?_
              rintro e w1 ⟨rfl, rfl⟩
              go_wp2_with fail
              refine (HR.out _).mono ?_
              rintro e w1 ⟨rfl, hB1⟩
              have HB := Lib.hid (HBr.out.trans (hB1.mono HBr.out.size))
              clear hB1
              go_wp2_with fail
              go_roundg (gk - (runeAt s q).2)
              case measure => omega
              case rel => exact ⟨q + (runeAt s q).2, by omega, by omega, by rw [HL2.out]; rfl, by go_num, .inr ⟨by omega, Hat.out.trans HE2.out⟩, HB.out⟩
    · obtain rfl : q = s.size := by omega
      have HE2 : Hid (closedR s [42, 47] at_ (at_ + 2) = .inl at_) := Lib.hid (by
        rcases hE with ⟨h, _⟩ | ⟨_, h⟩
        · have := Hb.out.1; omega
        · rw [h, closedR, dif_neg hq])
      clear hE hb
      have c0 := block_cell HBk.out 0
      have c1 := block_cell HBk.out 1
      have c2 := block_cell HBk.out 2
      have f0 := block_free HBk.out 0
      have f1 := block_free HBk.out 1
      have f2 := block_free HBk.out 2
      go_wp2_with fail
      exact ret39 _ _ _ _ _ HBk.out rfl rfl ⟨by rw [HE2.out]; rfl, below_set3 (HBa.out.trans (HBr.out.mono HBa.out.size)) HBk.out (Nat.le_refl _) _ _ _⟩
end Go.Proofs.YtejogobhnbjpdaaGreatDoor
