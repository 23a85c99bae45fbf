/- Walks: what stands at a place of a text, read by the code. -/
import Derived.Test.YtejogobhnbjpdaaDoorKd
namespace Go.Proofs.YtejogobhnbjpdaaDoor
set_option linter.unusedVariables false
set_option linter.unusedSimpArgs false
open Go.ChangeShapes Go.WideShapes Go.ChangeAt Go.RowKit

theorem below_drewN {n : Nat} {a w : World} (h : Below n a w) (k : Nat) : Below n a (w.drewN k) := h.trans ⟨rfl, rfl, rfl, Nat.le_refl _, fun _ _ => rfl⟩
/-- A lexer's text and place. -/
structure Tx (b : Nat) (s : ByteArray) (at_ : Nat) (w : World) : Prop where
  lt : b < w.heap.size
  c0 : w.cell? ⟨b, 0, none⟩ = some (.string s)
  c1 : w.cell? ⟨b, 1, none⟩ = some (.int .i64 at_)
theorem Tx.below {b at_ : Nat} {s : ByteArray} {w w' : World} (h : Tx b s at_ w) (hB : Below w.heap.size w w') : Tx b s at_ w' :=
  ⟨Nat.lt_of_lt_of_le h.lt hB.size, (hB.cell (p := ⟨b, 0, none⟩) h.lt).trans h.c0, (hB.cell (p := ⟨b, 1, none⟩) h.lt).trans h.c1⟩
theorem Lx.tx {b at_ : Nat} {s : ByteArray} {T M : List Tk} {w : World} (h : Lx b s at_ T M w) : Tx b s at_ w := by
  obtain ⟨tv, mv, h1, _⟩ := h.f
  exact ⟨lt_of_block h1, block_cell h1 0, block_cell h1 1⟩
abbrev Tabs (w : World) : Prop := Lib.Utf8Tabs 1 2 w
theorem rune_any (s : ByteArray) (i : Nat) (w : World) (hs : s.size ≤ 9223372036854775807) (hT : Tabs w) :
    Calls Tryd.prog 61 #[.string s, .int .i64 i] w fun e w' => e = .returned (.tuple #[.int .i32 (rn s i).1, .int .i64 (rn s i).2]) ∧ Below w.heap.size w w' := by
  by_cases hi : i < s.size
  · rw [rn_in hi]; exact rune_in s i w hi hs hT
  · rw [rn_out hi]
    exact (rune_out s i w (.inr (by omega))).mono (by rintro e w1 ⟨rfl, rfl⟩; exact ⟨rfl, Below.refl _ _⟩)
theorem rn_low (s : ByteArray) (i : Nat) : -1 ≤ (rn s i).1 ∧ (rn s i).1 ≤ 1114111 := by
  unfold rn; split
  · exact runeAt_bounds s i
  · exact ⟨by omega, by decide⟩
def rsV : Rs → Value | .inl f => .tuple #[.int .i64 0, .int .i64 f] | .inr e => .tuple #[.int .i64 e, .int .i64 (-1)]
theorem digit70_any (b : Nat) (s : ByteArray) (at_ i : Nat) (w : World) (h : Tx b s at_ w) (hs : s.size ≤ 1048576) (hT : Tabs w) :
    Calls Tryd.prog 70 #[.pointer (some ⟨b, 0, none⟩), .int .i64 i] w fun e w' => e = .returned (.bool (digR (rn s i).1)) ∧ Below w.heap.size w w' := by
  have c0 := h.c0
  have HR := Lib.hid (fun w1 (h1 : Below w.heap.size w w1) => rune_any s i w1 (by omega) (tabs_below hT h1))
  have HD := Lib.hid (fun w1 => digit_any (rn s i).1 w1)
  clear h hT
  generalize (rn s i).1 = r at *
  generalize (rn s i).2 = n at *
  go_enter Tryd.func70, Tryd.ntmps70
  go_wp2_with fail
  refine (HR.out _ (Below.refl _ _)).mono ?_
  rintro e w1 ⟨rfl, hB1⟩
  go_wp2_with fail
  refine (HD.out _).mono ?_
  rintro e w2 ⟨rfl, rfl⟩
  go_wp2_with fail
  go_ret
  exact ⟨rfl, hB1⟩

set_option maxHeartbeats 1000000 in
theorem ident_any (b : Nat) (s : ByteArray) (at_ : Nat) (w : World) (h : Tx b s at_ w) (hs : s.size ≤ 1048576) (ha : at_ ≤ s.size) (hT : Tabs w) :
    Calls Tryd.prog 68 #[.pointer (some ⟨b, 0, none⟩)] w fun e w' => e = .returned (.int .i64 (identE s at_ : Nat)) ∧ Below w.heap.size w w' := by
  have c1 := h.c1
  have HX := Lib.hid h
  have HT := Lib.hid hT
  clear h hT
  go_enter Tryd.func68, Tryd.ntmps68
  go_wp2_with fail
  go_loopg [3] (s.size - at_) (fun g iv wr => ∃ q : Nat, q + g = s.size ∧ iv = .int .i64 q ∧ identE s at_ = identE s q ∧ Below w.heap.size w wr)
  case atStart => exact ⟨at_, by omega, rfl, rfl, Below.refl _ _⟩
  case round =>
    obtain ⟨q, hqg, rfl, hE, hBr⟩ := hrel
    have HR := Lib.hid (fun w1 (h1 : Below w.heap.size w w1) => rune_any s q w1 (by omega) (tabs_below HT.out h1))
    have hX := HX.out.below hBr
    have c0 := hX.c0
    have c1r := hX.c1
    have HBr := Lib.hid hBr
    clear hX hBr
    have Hat := Lib.hid hE
    clear hE
    by_cases hq : q < s.size
    · have hn := runeAt_range s q hq
      have HE := Lib.hid (show identE s q = if (letR (runeAt s q).1 || digR (runeAt s q).1) = true then identE s (q + (runeAt s q).2) else q by rw [identE, dif_pos hq])
      rw [rn_in hq] at HR
      have HL := Lib.hid (fun w1 => letter_any (runeAt s q).1 w1)
      have HD := Lib.hid (fun w1 => digit_any (runeAt s q).1 w1)
      generalize (runeAt s q).1 = r at *
      generalize (runeAt s q).2 = n at *
      obtain ⟨hn1, hn2⟩ := hn
      cases hl : letR r with
      | true =>
        have HE2 := Lib.hid (show identE s q = identE s (q + n) by rw [HE.out, hl]; rfl)
        rw [hl] at HL
        clear hl
        go_wp2_with fail
        refine (HR.out _ HBr.out).mono ?_
        rintro e w1 ⟨rfl, hB1⟩
        have HB := Lib.hid (HBr.out.trans (hB1.mono HBr.out.size))
        clear hB1
        go_wp2_with fail
        refine (HL.out _).mono ?_
        rintro e w2 ⟨rfl, rfl⟩
        go_wp2_with fail
        go_roundg (gk - n)
        case measure => omega
        case rel => exact ⟨q + n, by omega, by go_num, by rw [Hat.out, HE2.out], HB.out⟩
      | false =>
        rw [hl] at HL
        cases hd : digR r with
        | true =>
          have HE2 := Lib.hid (show identE s q = identE s (q + n) by rw [HE.out, hl, hd]; rfl)
          rw [hd] at HD
          clear hl hd
          go_wp2_with fail
          refine (HR.out _ HBr.out).mono ?_
          rintro e w1 ⟨rfl, hB1⟩
          have HB := Lib.hid (HBr.out.trans (hB1.mono HBr.out.size))
          clear hB1
          go_wp2_with fail
          refine (HL.out _).mono ?_
          rintro e w2 ⟨rfl, rfl⟩
          go_wp2_with fail
          refine (HD.out _).mono ?_
          rintro e w2 ⟨rfl, rfl⟩
          go_wp2_with fail
          go_roundg (gk - n)
          case measure => omega
          case rel => exact ⟨q + n, by omega, by go_num, by rw [Hat.out, HE2.out], HB.out⟩
        | false =>
          have HE2 := Lib.hid (show identE s q = q by rw [HE.out, hl, hd]; rfl)
          rw [hd] at HD
          clear hl hd
          go_wp2_with fail
          refine (HR.out _ HBr.out).mono ?_
          rintro e w1 ⟨rfl, hB1⟩
          have HB := Lib.hid (HBr.out.trans (hB1.mono HBr.out.size))
          clear hB1
          go_wp2_with fail
          refine (HL.out _).mono ?_
          rintro e w2 ⟨rfl, rfl⟩
          go_wp2_with fail
          refine (HD.out _).mono ?_
          rintro e w2 ⟨rfl, rfl⟩
          go_wp2_with fail
          go_ret
          exact ⟨by rw [Hat.out, HE2.out]; rfl, HB.out⟩
    · have HE2 := Lib.hid (show identE s q = q by rw [identE, dif_neg hq])
      rw [rn_out hq] at HR
      have HL := Lib.hid (fun w1 => letter_any (-1) w1)
      have HD := Lib.hid (fun w1 => digit_any (-1) w1)
      rw [show letR (-1) = false by decide] at HL
      rw [show digR (-1) = false by decide] at HD
      go_wp2_with fail
      refine (HR.out _ HBr.out).mono ?_
      rintro e w1 ⟨rfl, hB1⟩
      have HB := Lib.hid (HBr.out.trans (hB1.mono HBr.out.size))
      clear hB1
      go_wp2_with fail
      refine (HL.out _).mono ?_
      rintro e w2 ⟨rfl, rfl⟩
      go_wp2_with fail
      refine (HD.out _).mono ?_
      rintro e w2 ⟨rfl, rfl⟩
      go_wp2_with fail
      go_ret
      exact ⟨by rw [Hat.out, HE2.out]; rfl, HB.out⟩
set_option maxHeartbeats 1000000 in
theorem line_any (b : Nat) (s : ByteArray) (at_ : Nat) (w : World) (h : Tx b s at_ w) (hs : s.size ≤ 1048576) (ha : at_ ≤ s.size) (hT : Tabs w) :
    Calls Tryd.prog 63 #[.pointer (some ⟨b, 0, none⟩)] w fun e w' => e = .returned (rsV (lineR s at_)) ∧ Below w.heap.size w w' := by
  have c1 := h.c1
  have HX := Lib.hid h
  have HT := Lib.hid hT
  clear h hT
  go_enter Tryd.func63, Tryd.ntmps63
  go_wp2_with fail
  go_loopg [4] (s.size - at_) (fun g iv wr => ∃ q : Nat, q + g = s.size ∧ iv = .int .i64 q ∧ lineR s at_ = lineR s q ∧ Below w.heap.size w wr)
  case atStart => exact ⟨at_, by omega, rfl, rfl, Below.refl _ _⟩
  case round =>
    obtain ⟨q, hqg, rfl, hE, hBr⟩ := hrel
    have HR := Lib.hid (fun w1 (h1 : Below w.heap.size w w1) => rune_any s q w1 (by omega) (tabs_below HT.out h1))
    have hX := HX.out.below hBr
    have c0 := hX.c0
    have c1r := hX.c1
    have HBr := Lib.hid hBr
    clear hX hBr
    have Hat := Lib.hid hE
    clear hE
    by_cases hq : q < s.size
    · have hn := runeAt_range s q hq
      have HE := Lib.hid (show lineR s q = if (runeAt s q).1 = 10 then .inr q else if (runeAt s q).1 < 0 then .inl q else lineR s (q + (runeAt s q).2) by rw [lineR, dif_pos hq])
      rw [rn_in hq] at HR
      generalize (runeAt s q).1 = r at *
      generalize (runeAt s q).2 = n at *
      obtain ⟨hn1, hn2⟩ := hn
      have hn0 : ((n : Int) == 0) = false := beq_eq_false_iff_ne.2 (by omega)
      by_cases h10 : r = 10
      · have HE2 := Lib.hid (show lineR s q = .inr q by rw [HE.out, if_pos h10])
        subst h10
        go_wp2_with fail
        refine (HR.out _ HBr.out).mono ?_
        rintro e w1 ⟨rfl, hB1⟩
        have HB := Lib.hid (HBr.out.trans (hB1.mono HBr.out.size))
        clear hB1
        go_wp2_with fail
        go_ret2
        exact ⟨by rw [Hat.out, HE2.out]; rfl, HB.out⟩
      · have hr10 : (r == 10) = false := beq_eq_false_iff_ne.2 h10
        by_cases h0 : r < 0
        · have HE2 := Lib.hid (show lineR s q = .inl q by rw [HE.out, if_neg h10, if_pos h0])
          go_wp2_with fail
          refine (HR.out _ HBr.out).mono ?_
          rintro e w1 ⟨rfl, hB1⟩
          have HB := Lib.hid (HBr.out.trans (hB1.mono HBr.out.size))
          clear hB1
          go_wp2_with fail
          go_ret2
          exact ⟨by rw [Hat.out, HE2.out]; rfl, HB.out⟩
        · have HE2 := Lib.hid (show lineR s q = lineR s (q + n) by rw [HE.out, if_neg h10, if_neg h0])
          go_wp2_with fail
          refine (HR.out _ HBr.out).mono ?_
          rintro e w1 ⟨rfl, hB1⟩
          have HB := Lib.hid (HBr.out.trans (hB1.mono HBr.out.size))
          clear hB1
          go_wp2_with fail
          go_roundg (gk - n)
          case measure => omega
          case rel => exact ⟨q + n, by omega, by go_num, by rw [Hat.out, HE2.out], HB.out⟩
    · have HE2 := Lib.hid (show lineR s q = .inr q by rw [lineR, dif_neg hq])
      rw [rn_out hq] at HR
      go_wp2_with fail
      refine (HR.out _ HBr.out).mono ?_
      rintro e w1 ⟨rfl, hB1⟩
      have HB := Lib.hid (HBr.out.trans (hB1.mono HBr.out.size))
      clear hB1
      go_wp2_with fail
      go_ret2
      exact ⟨by rw [Hat.out, HE2.out]; rfl, HB.out⟩
theorem drop_data (s : ByteArray) (q : Nat) (x : List UInt8) : Lib.hasPrefix (s.extract q s.size).data.toList x = pre s q x := by
  unfold pre
  rw [Lib.extract_data]
  congr 1
  rw [List.take_of_length_le]
  rw [List.length_drop, ← Lib.size_eq]
  exact Nat.le_refl _

set_option maxHeartbeats 1000000 in
theorem closed_any (b : Nat) (s first last : ByteArray) (at_ : Nat) (w : World) (h : Tx b s at_ w) (hs : s.size ≤ 1048576) (hf : first.size ≤ 16) (hl : last.size ≤ 16) (ha : at_ + first.size ≤ s.size) (hT : Tabs w) :
    Calls Tryd.prog 65 #[.pointer (some ⟨b, 0, none⟩), .string first, .string last] w fun e w' => e = .returned (rsV (closedR s last.data.toList at_ (at_ + first.size))) ∧ Below w.heap.size w w' := by
  have Hls := Lib.hid (show last.data.toList.length = last.size by rw [← Lib.size_eq])
  have c1 := h.c1
  have HX := Lib.hid h
  have HT := Lib.hid hT
  clear h hT
  go_enter Tryd.func65, Tryd.ntmps65
  go_wp2_with fail
  go_loopg [8] (s.size - (at_ + first.size)) (fun g iv wr => ∃ q : Nat, q + g = s.size ∧ iv = .int .i64 q ∧ closedR s last.data.toList at_ (at_ + first.size) = closedR s last.data.toList at_ q ∧ Below w.heap.size w wr)
  case atStart => exact ⟨at_ + first.size, by omega, by go_num, rfl, Below.refl _ _⟩
  case round =>
    obtain ⟨q, hqg, rfl, hE, hBr⟩ := hrel
    have HR := Lib.hid (fun w1 (h1 : Below w.heap.size w w1) => rune_any s q w1 (by omega) (tabs_below HT.out h1))
    have hX := HX.out.below hBr
    have c0 := hX.c0
    have c1r := hX.c1
    have HBr := Lib.hid hBr
    clear hX hBr
    have Hat := Lib.hid hE
    clear hE
    by_cases hq : q < s.size
    · have hn := runeAt_range s q hq
      have hqI : (q : Int) ≤ (s.size : Int) := by omega
      have HE := Lib.hid (show closedR s last.data.toList at_ q = if (runeAt s q).1 < 0 then .inl q else if pre s q last.data.toList = true then .inr (q + last.data.toList.length) else closedR s last.data.toList at_ (q + (runeAt s q).2) by rw [closedR, dif_pos hq])
      rw [rn_in hq] at HR
      have HP := Lib.hid (fun w1 => (by have h := Tryd.strings_HasPrefix (s.extract q s.size) last w1; rw [drop_data] at h; exact h : Calls Tryd.prog 52 #[.string (s.extract q s.size), .string last] w1 fun e w' => e = .returned (.bool (pre s q last.data.toList)) ∧ w' = w1))
      generalize (runeAt s q).1 = r at *
      generalize (runeAt s q).2 = n at *
      obtain ⟨hn1, hn2⟩ := hn
      have hn0 : ((n : Int) == 0) = false := beq_eq_false_iff_ne.2 (by omega)
      by_cases h0 : r < 0
      · have HE2 := Lib.hid (show closedR s last.data.toList at_ q = .inl q by rw [HE.out, if_pos h0])
        go_wp2_with fail
        refine (HR.out _ HBr.out).mono ?_
        rintro e w1 ⟨rfl, hB1⟩
        have HB := Lib.hid (HBr.out.trans (hB1.mono HBr.out.size))
        clear hB1
        go_wp2_with fail
        go_ret2
        exact ⟨by rw [Hat.out, HE2.out]; rfl, HB.out⟩
      · cases hp : pre s q last.data.toList with
        | true =>
          have HE2 := Lib.hid (show closedR s last.data.toList at_ q = .inr (q + last.size) by rw [HE.out, if_neg h0, if_pos hp, Hls.out])
          rw [hp] at HP
          clear hp
          go_wp2_with fail
          refine (HR.out _ HBr.out).mono ?_
          rintro e w1 ⟨rfl, hB1⟩
          have HB := Lib.hid (HBr.out.trans (hB1.mono HBr.out.size))
          clear hB1
          have c0' := (HX.out.below HB.out).c0
          go_wp2_with fail
          refine (HP.out _).mono ?_
          rintro e w2 ⟨rfl, rfl⟩
          go_wp2_with fail
          go_ret2
          exact ⟨by rw [Hat.out, HE2.out]; simp [rsV], HB.out⟩
        | false =>
          have HE2 := Lib.hid (show closedR s last.data.toList at_ q = closedR s last.data.toList at_ (q + n) by rw [HE.out, if_neg h0, if_neg (by rw [hp]; decide)])
          rw [hp] at HP
          clear hp
          go_wp2_with fail
          refine (HR.out _ HBr.out).mono ?_
          rintro e w1 ⟨rfl, hB1⟩
          have HB := Lib.hid (HBr.out.trans (hB1.mono HBr.out.size))
          clear hB1
          have c0' := (HX.out.below HB.out).c0
          go_wp2_with fail
          refine (HP.out _).mono ?_
          rintro e w2 ⟨rfl, rfl⟩
          go_wp2_with fail
          go_roundg (gk - n)
          case measure => omega
          case rel => exact ⟨q + n, by omega, by go_num, by rw [Hat.out, HE2.out], HB.out⟩
    · have HE2 := Lib.hid (show closedR s last.data.toList at_ q = .inl at_ by rw [closedR, dif_neg hq])
      rw [rn_out hq] at HR
      go_wp2_with fail
      refine (HR.out _ HBr.out).mono ?_
      rintro e w1 ⟨rfl, hB1⟩
      have HB := Lib.hid (HBr.out.trans (hB1.mono HBr.out.size))
      have c1' := (HX.out.below HB.out).c1
      clear hB1
      go_wp2_with fail
      go_quiet (fail)
      go_wp2_with fail
      go_ret2
      exact ⟨by rw [Hat.out, HE2.out]; rfl, below_drewN HB.out _⟩
end Go.Proofs.YtejogobhnbjpdaaDoor
