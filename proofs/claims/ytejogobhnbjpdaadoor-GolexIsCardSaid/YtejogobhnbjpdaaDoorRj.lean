/- Walks: the statement GolexIs. -/
import Derived.Test.YtejogobhnbjpdaaDoorRi
import Derived.Test.YtejogobhnbjpdaaDoorKk
namespace Go.Proofs.YtejogobhnbjpdaaDoor
set_option linter.unusedVariables false
set_option linter.unusedSimpArgs false
open Go.ChangeShapes Go.WideShapes Go.ChangeAt Go.RowKit

theorem key_or (x : ByteArray) : keyB x = ((x.toList == ([98, 114, 101, 97, 107] : List UInt8)) || (x.toList == ([99, 111, 110, 116, 105, 110, 117, 101] : List UInt8)) || (x.toList == ([102, 97, 108, 108, 116, 104, 114, 111, 117, 103, 104] : List UInt8)) || (x.toList == ([114, 101, 116, 117, 114, 110] : List UInt8)) || joinsB x) := by
  unfold keyB kw4
  simp only [contains_or, List.contains_nil, Bool.or_false, Bool.or_assoc]
theorem same_self (v u : Value) (a : List Tk) (w : World) (hv : LAt 3 tkV w v a) (hu : LAt 3 tkV w u a) (hA : ∀ t ∈ a, TkB t) (hla : a.length ≤ 16777216) :
    Calls Tryd.prog 16 #[v, u] w fun e w' => e = .returned (.bool true) ∧ Below w.heap.size w w' :=
  (same_any v u a a w hv hu hA hA hla hla).mono (fun e w2 hh => ⟨by rw [hh.1, decide_eq_true rfl], hh.2⟩)
set_option maxRecDepth 100000 in
set_option maxHeartbeats 8000000 in
theorem is_walk (s : ByteArray) (w : World) (hs0 : s.size ≤ 140737488351232) (hTab : Tabs w) : Calls Tryd.prog 3 #[.string s] w (LawEnd w) := by
  have HA := Lib.hid (alive_any w hTab)
  have HT := Lib.hid hTab
  clear hTab
  by_cases hbig : 2048 < s.size
  · have hbI : (2048 : Int) < (s.size : Int) := by omega
    go_enter Tryd.func3, Tryd.ntmps3
    go_wp2_with fail
    refine HA.out.mono ?_
    rintro r w1 ⟨rfl, hB⟩
    have HB := Lib.hid hB
    clear hB
    go_wp2_with fail
    go_ret
    exact ⟨rfl, HB.out⟩
  have hbI : ¬ (2048 : Int) < (s.size : Int) := by omega
  have HR := Lib.hid (fun w1 => refLex_any s w1 (by omega))
  have HLX := Lib.hid (fun w1 (h1 : Below w.heap.size w w1) => lex_any s w1 (by omega) (tabs_below HT.out h1))
  have HNT := Lib.hid (fun w1 (h1 : Below w.heap.size w w1) => notes_any s w1 (by omega) (tabs_below HT.out h1))
  have HKW := Lib.hid (fun w1 => keyword_any s w1)
  have HOP := Lib.hid (fun w1 => open_any s w1)
  have HT1 := Lib.hid (lexL_tkb (s := s) (by omega))
  have HT2 := Lib.hid (lexM_tkb (s := s) (by omega))
  have HL1 := Lib.hid (show (lexL s).length ≤ 16777216 from by have := (lexL_len s).1; omega)
  have HL2 := Lib.hid (show (lexM s).length ≤ 16777216 from by have := (lexL_len s).2; omega)
  have hkey := key_or s
  generalize lexL s = L at *
  generalize lexM s = M at *
  generalize keyB s = kb at *
  generalize joinsB s = jb at *
  obtain ⟨b0, h0⟩ : ∃ b, (s.toList == ([98, 114, 101, 97, 107] : List UInt8)) = b := ⟨_, rfl⟩
  obtain ⟨b1, h1⟩ : ∃ b, (s.toList == ([99, 111, 110, 116, 105, 110, 117, 101] : List UInt8)) = b := ⟨_, rfl⟩
  obtain ⟨b2, h2⟩ : ∃ b, (s.toList == ([102, 97, 108, 108, 116, 104, 114, 111, 117, 103, 104] : List UInt8)) = b := ⟨_, rfl⟩
  obtain ⟨b3, h3⟩ : ∃ b, (s.toList == ([114, 101, 116, 117, 114, 110] : List UInt8)) = b := ⟨_, rfl⟩
  rw [h0, h1, h2, h3] at hkey
  have Hkey := Lib.hid hkey
  clear hkey
  go_enter Tryd.func3, Tryd.ntmps3
  go_wp2_with fail
  refine HA.out.mono ?_
  rintro r w1 ⟨rfl, hB⟩
  have HB1 := Lib.hid hB
  clear hB
  go_wp2_with fail
  refine (HR.out _).mono ?_
  rintro r w2 ⟨v, u, rfl, hv, hu, hB2⟩
  have HB2 := Lib.hid (HB1.out.trans (hB2.mono HB1.out.size))
  have HV := Lib.hid hv
  have HU := Lib.hid hu
  clear hv hu hB2
  go_wp2_with fail
  refine (HKW.out _).mono ?_
  rintro r w3 ⟨rfl, rfl⟩
  go_wp2_with fail
  refine (HOP.out _).mono ?_
  rintro r w3 ⟨rfl, hB3⟩
  have HB3 := Lib.hid (HB2.out.trans (hB3.mono HB2.out.size))
  have HV3 := Lib.hid (HV.out.below hB3)
  have HU3 := Lib.hid (HU.out.below hB3)
  clear hB3 HR HOP HKW
  cases jb with
  | true =>
    obtain rfl : kb = true := by rw [Hkey.out]; simp
    clear Hkey
    go_wp2_with fail
    refine (HLX.out _ HB3.out).mono ?_
    rintro r w4 ⟨v2, rfl, hv2, hB4⟩
    have HB4 := Lib.hid (HB3.out.trans (hB4.mono HB3.out.size))
    have HS1 := Lib.hid (same_self v2 v L w4 hv2 (HV3.out.below hB4) HT1.out HL1.out)
    have HU4 := Lib.hid (HU3.out.below hB4)
    clear hv2 hB4
    go_wp2_with fail
    refine HS1.out.mono ?_
    rintro r w5 ⟨rfl, hB5⟩
    have HB5 := Lib.hid (HB4.out.trans (hB5.mono HB4.out.size))
    have HU5 := Lib.hid (HU4.out.below hB5)
    clear hB5
    go_wp2_with fail
    refine (HNT.out _ HB5.out).mono ?_
    rintro r w6 ⟨u2, rfl, hu2, hB6⟩
    have HB6 := Lib.hid (HB5.out.trans (hB6.mono HB5.out.size))
    have HS2 := Lib.hid (same_self u2 u M w6 hu2 (HU5.out.below hB6) HT2.out HL2.out)
    clear hu2 hB6
    go_wp2_with fail
    refine HS2.out.mono ?_
    rintro r w7 ⟨rfl, hB7⟩
    have HB7 := Lib.hid (HB6.out.trans (hB7.mono HB6.out.size))
    clear hB7
    go_wp2_with fail
    go_ret
    exact ⟨rfl, HB7.out⟩
  | false =>
    cases b0 with
    | true =>
      obtain rfl : kb = true := by rw [Hkey.out]; simp
      clear Hkey
      go_wp2_with fail
      refine (HLX.out _ HB3.out).mono ?_
      rintro r w4 ⟨v2, rfl, hv2, hB4⟩
      have HB4 := Lib.hid (HB3.out.trans (hB4.mono HB3.out.size))
      have HS1 := Lib.hid (same_self v2 v L w4 hv2 (HV3.out.below hB4) HT1.out HL1.out)
      have HU4 := Lib.hid (HU3.out.below hB4)
      clear hv2 hB4
      go_wp2_with fail
      refine HS1.out.mono ?_
      rintro r w5 ⟨rfl, hB5⟩
      have HB5 := Lib.hid (HB4.out.trans (hB5.mono HB4.out.size))
      have HU5 := Lib.hid (HU4.out.below hB5)
      clear hB5
      go_wp2_with fail
      refine (HNT.out _ HB5.out).mono ?_
      rintro r w6 ⟨u2, rfl, hu2, hB6⟩
      have HB6 := Lib.hid (HB5.out.trans (hB6.mono HB5.out.size))
      have HS2 := Lib.hid (same_self u2 u M w6 hu2 (HU5.out.below hB6) HT2.out HL2.out)
      clear hu2 hB6
      go_wp2_with fail
      refine HS2.out.mono ?_
      rintro r w7 ⟨rfl, hB7⟩
      have HB7 := Lib.hid (HB6.out.trans (hB7.mono HB6.out.size))
      clear hB7
      go_wp2_with fail
      go_ret
      exact ⟨rfl, HB7.out⟩
    | false =>
      cases b1 with
      | true =>
        obtain rfl : kb = true := by rw [Hkey.out]; simp
        clear Hkey
        go_wp2_with fail
        refine (HLX.out _ HB3.out).mono ?_
        rintro r w4 ⟨v2, rfl, hv2, hB4⟩
        have HB4 := Lib.hid (HB3.out.trans (hB4.mono HB3.out.size))
        have HS1 := Lib.hid (same_self v2 v L w4 hv2 (HV3.out.below hB4) HT1.out HL1.out)
        have HU4 := Lib.hid (HU3.out.below hB4)
        clear hv2 hB4
        go_wp2_with fail
        refine HS1.out.mono ?_
        rintro r w5 ⟨rfl, hB5⟩
        have HB5 := Lib.hid (HB4.out.trans (hB5.mono HB4.out.size))
        have HU5 := Lib.hid (HU4.out.below hB5)
        clear hB5
        go_wp2_with fail
        refine (HNT.out _ HB5.out).mono ?_
        rintro r w6 ⟨u2, rfl, hu2, hB6⟩
        have HB6 := Lib.hid (HB5.out.trans (hB6.mono HB5.out.size))
        have HS2 := Lib.hid (same_self u2 u M w6 hu2 (HU5.out.below hB6) HT2.out HL2.out)
        clear hu2 hB6
        go_wp2_with fail
        refine HS2.out.mono ?_
        rintro r w7 ⟨rfl, hB7⟩
        have HB7 := Lib.hid (HB6.out.trans (hB7.mono HB6.out.size))
        clear hB7
        go_wp2_with fail
        go_ret
        exact ⟨rfl, HB7.out⟩
      | false =>
        cases b2 with
        | true =>
          obtain rfl : kb = true := by rw [Hkey.out]; simp
          clear Hkey
          go_wp2_with fail
          refine (HLX.out _ HB3.out).mono ?_
          rintro r w4 ⟨v2, rfl, hv2, hB4⟩
          have HB4 := Lib.hid (HB3.out.trans (hB4.mono HB3.out.size))
          have HS1 := Lib.hid (same_self v2 v L w4 hv2 (HV3.out.below hB4) HT1.out HL1.out)
          have HU4 := Lib.hid (HU3.out.below hB4)
          clear hv2 hB4
          go_wp2_with fail
          refine HS1.out.mono ?_
          rintro r w5 ⟨rfl, hB5⟩
          have HB5 := Lib.hid (HB4.out.trans (hB5.mono HB4.out.size))
          have HU5 := Lib.hid (HU4.out.below hB5)
          clear hB5
          go_wp2_with fail
          refine (HNT.out _ HB5.out).mono ?_
          rintro r w6 ⟨u2, rfl, hu2, hB6⟩
          have HB6 := Lib.hid (HB5.out.trans (hB6.mono HB5.out.size))
          have HS2 := Lib.hid (same_self u2 u M w6 hu2 (HU5.out.below hB6) HT2.out HL2.out)
          clear hu2 hB6
          go_wp2_with fail
          refine HS2.out.mono ?_
          rintro r w7 ⟨rfl, hB7⟩
          have HB7 := Lib.hid (HB6.out.trans (hB7.mono HB6.out.size))
          clear hB7
          go_wp2_with fail
          go_ret
          exact ⟨rfl, HB7.out⟩
        | false =>
          cases b3 with
          | true =>
            obtain rfl : kb = true := by rw [Hkey.out]; simp
            clear Hkey
            go_wp2_with fail
            refine (HLX.out _ HB3.out).mono ?_
            rintro r w4 ⟨v2, rfl, hv2, hB4⟩
            have HB4 := Lib.hid (HB3.out.trans (hB4.mono HB3.out.size))
            have HS1 := Lib.hid (same_self v2 v L w4 hv2 (HV3.out.below hB4) HT1.out HL1.out)
            have HU4 := Lib.hid (HU3.out.below hB4)
            clear hv2 hB4
            go_wp2_with fail
            refine HS1.out.mono ?_
            rintro r w5 ⟨rfl, hB5⟩
            have HB5 := Lib.hid (HB4.out.trans (hB5.mono HB4.out.size))
            have HU5 := Lib.hid (HU4.out.below hB5)
            clear hB5
            go_wp2_with fail
            refine (HNT.out _ HB5.out).mono ?_
            rintro r w6 ⟨u2, rfl, hu2, hB6⟩
            have HB6 := Lib.hid (HB5.out.trans (hB6.mono HB5.out.size))
            have HS2 := Lib.hid (same_self u2 u M w6 hu2 (HU5.out.below hB6) HT2.out HL2.out)
            clear hu2 hB6
            go_wp2_with fail
            refine HS2.out.mono ?_
            rintro r w7 ⟨rfl, hB7⟩
            have HB7 := Lib.hid (HB6.out.trans (hB7.mono HB6.out.size))
            clear hB7
            go_wp2_with fail
            go_ret
            exact ⟨rfl, HB7.out⟩
          | false =>
            obtain rfl : kb = false := by rw [Hkey.out]; simp
            clear Hkey
            go_wp2_with fail
            refine (HLX.out _ HB3.out).mono ?_
            rintro r w4 ⟨v2, rfl, hv2, hB4⟩
            have HB4 := Lib.hid (HB3.out.trans (hB4.mono HB3.out.size))
            have HS1 := Lib.hid (same_self v2 v L w4 hv2 (HV3.out.below hB4) HT1.out HL1.out)
            have HU4 := Lib.hid (HU3.out.below hB4)
            clear hv2 hB4
            go_wp2_with fail
            refine HS1.out.mono ?_
            rintro r w5 ⟨rfl, hB5⟩
            have HB5 := Lib.hid (HB4.out.trans (hB5.mono HB4.out.size))
            have HU5 := Lib.hid (HU4.out.below hB5)
            clear hB5
            go_wp2_with fail
            refine (HNT.out _ HB5.out).mono ?_
            rintro r w6 ⟨u2, rfl, hu2, hB6⟩
            have HB6 := Lib.hid (HB5.out.trans (hB6.mono HB5.out.size))
            have HS2 := Lib.hid (same_self u2 u M w6 hu2 (HU5.out.below hB6) HT2.out HL2.out)
            clear hu2 hB6
            go_wp2_with fail
            refine HS2.out.mono ?_
            rintro r w7 ⟨rfl, hB7⟩
            have HB7 := Lib.hid (HB6.out.trans (hB7.mono HB6.out.size))
            clear hB7
            go_wp2_with fail
            go_ret
            exact ⟨rfl, HB7.out⟩
end Go.Proofs.YtejogobhnbjpdaaDoor
