/- Walks: the document's Good, Line, Lines. -/
import Derived.Test.YtfkmijdpcenieaaDoorRc
namespace Go.Proofs.YtfkmijdpcenieaaDoor
set_option linter.unusedVariables false
open Go.ChangeShapes Go.WideShapes Go.ChangeAt Go.RowKit

theorem okO_split (o : ByteArray) : okO o = (cutB 44 o).all okT := rfl
theorem row_none {w : World} {h0 : Nat} {v : Value} {L : List ByteArray} (h : w.ownsRow h0 9 1 v L.length (L.map Value.string)) (hl : L.length = 0) : ∃ p c, v = .slice p 0 c := by
  rcases h.2 with ⟨hv, hn⟩ | ⟨g, cap, cur, hv, hb, hg, hcap, hmax, hsz, htake⟩
  · exact ⟨_, _, hv⟩
  · rw [hl] at hv; exact ⟨_, _, hv⟩

set_option maxRecDepth 100000 in
set_option maxHeartbeats 2000000 in
theorem good_any (s : ByteArray) (w : World) (hs : s.size ≤ 65536) :
    Calls Tryd.prog 13 #[.string s] w fun e w' => e = .returned (.bool (okL s)) ∧ Below w.heap.size w w' := by
  have HX := Lib.hid (fun w1 => rwords_any s w1 (by omega))
  have hxl := (sums_words s).1
  have hxn := (sums_words s).2
  have hxm := sums_mem (wordsB s)
  have hok : okL s = (!(wordsB s).isEmpty && (wordsB s).all okO) := rfl
  rw [hok]
  obtain ⟨X, hXe⟩ : ∃ X, X = wordsB s := ⟨_, rfl⟩
  rw [← hXe] at HX hxl hxn hxm ⊢
  have HE := Lib.hid (fun (x : ByteArray) (hx : x ∈ X) w1 => rcut_any x 44 w1 (by have := hxm x hx; omega))
  rw [show ((44 : UInt8).toNat : Int) = 44 from rfl] at HE
  have HZ := Lib.hid (fun (x : ByteArray) (hx : x ∈ X) => hxm x hx)
  obtain ⟨n, hn⟩ : ∃ n, n = X.length := ⟨_, rfl⟩
  rw [← hn] at HX hxn
  have Hn := Lib.hid hn
  clear hxm hXe hn hok
  obtain ⟨F, hF⟩ : ∃ F, F = (!X.isEmpty && X.all okO) := ⟨_, rfl⟩
  rw [← hF]
  have HF := Lib.hid hF
  clear hF
  go_enter Tryd.func13, Tryd.ntmps13
  go_wp2_with fail
  refine (HX.out _).mono ?_
  rintro e w1 ⟨v1, rfl, hown1, hB1⟩
  by_cases hn0 : 0 < n
  · rw [Hn.out] at hown1
    obtain ⟨g1, cap1, rfl, hg1b, hg1l, hg1c, hg1m, hcl1⟩ := row_cells hown1 (by have := Hn.out; omega)
    rw [← Hn.out] at hg1c hcl1 ⊢
    have HCL := Lib.hid (fun w2 (h2 : Below w1.heap.size w1 w2) j (hj : j < n) => (h2.cell (p := ⟨g1, j, none⟩) hg1l).trans (hcl1 j hj))
    have HB1 := Lib.hid hB1
    have hB1s := hB1.size
    clear hown1 hcl1 hB1
    go_wp2_with fail
    go_loopg [4, 6, 7, 8, 9, 13] n (fun g _ _ _ _ _ iv wr => ∃ i : Nat, i + g = n ∧ iv = .int .i64 i ∧ (X.take i).all okO = true ∧ Below w1.heap.size w1 wr)
    case atStart => exact ⟨0, by omega, rfl, rfl, Below.refl _ _⟩
    case round =>
      obtain ⟨i, hig, rfl, hall, hB⟩ := hrel
      by_cases hlt : i < n
      · have hltI : (i : Int) < (n : Int) := by omega
        have hkl : i < X.length := by have := Hn.out; omega
        have hc := HCL.out wr hB i hlt
        have hgr : g1 < wr.heap.size := Nat.lt_of_lt_of_le hg1l hB.size
        have hcall := HE.out _ (getD_mem hkl) wr
        have hxz := HZ.out _ (getD_mem hkl)
        have hyl := sums_cutB 44 (X.getD i ByteArray.empty)
        have hyp := cutB_ne 44 (X.getD i ByteArray.empty)
        have hym := sums_mem (cutB 44 (X.getD i ByteArray.empty))
        have Hyes := Lib.hid (fun h => all_take (ok := okO) hall hkl h)
        have Hnot := Lib.hid (fun h => HF.out.trans (not_all (ok := okO) hkl h))
        rw [okO_split] at Hyes Hnot
        obtain ⟨x, hx⟩ : ∃ x, x = X.getD i ByteArray.empty := ⟨_, rfl⟩
        rw [← hx] at hc hcall hxz hyl hyp hym Hyes Hnot
        obtain ⟨Y, hY⟩ : ∃ Y, Y = cutB 44 x := ⟨_, rfl⟩
        rw [← hY] at hcall hyl hyp hym Hyes Hnot
        obtain ⟨m, hm⟩ : ∃ m, m = Y.length := ⟨_, rfl⟩
        have Hm := Lib.hid hm
        rw [← hm] at hcall hyl hyp
        have hmz : m ≤ 65537 := by omega
        have HT := Lib.hid (fun (y : ByteArray) (hy : y ∈ Y) w1 => rterm_any y w1 (by have := hym y hy; omega))
        have Hcall := Lib.hid hcall
        have hBs := hB.size
        clear hcall hx hY hm hall hym
        obtain ⟨gko, rfl⟩ : ∃ g, g = gk := ⟨gk, rfl⟩
        obtain ⟨wo, rfl⟩ : ∃ wo, wo = wr := ⟨wr, rfl⟩
        go_wp2_with fail
        refine Hcall.out.mono ?_
        rintro e w2 ⟨v2, rfl, hown2, hB2⟩
        rw [Hm.out] at hown2
        obtain ⟨g2, cap2, rfl, hg2b, hg2l, hg2c, hg2m, hcl2⟩ := row_cells hown2 (by have := Hm.out; omega)
        rw [← Hm.out] at hg2c hcl2 ⊢
        have HCL2 := Lib.hid hcl2
        have hb2 := hB.trans (hB2.mono hBs)
        have hb2s := hb2.size
        have Hb2 := Lib.hid hb2
        clear hown2 hcl2 hB2 hb2 hB
        go_wp2_with fail
        go_loopg [6, 7, 8, 9, 20] m (fun g _ _ _ _ jv wr => ∃ j : Nat, j + g = m ∧ jv = .int .i64 j ∧ (Y.take j).all okT = true ∧ wr = w2)
        case atStart => exact ⟨0, by omega, rfl, rfl, rfl⟩
        case round =>
          obtain ⟨j, hjg, rfl, hall2, rfl⟩ := hrel
          by_cases hjm : j < m
          · have hjI : (j : Int) < (m : Int) := by omega
            have hkj : j < Y.length := by have := Hm.out; omega
            have hc2 := HCL2.out j hjm
            have hcall2 := HT.out _ (getD_mem hkj) wr
            have Hy2 := Lib.hid (fun h => all_take (ok := okT) hall2 hkj h)
            have Hn2 := Lib.hid (fun h => Hnot.out (by
              have := not_all (ok := okT) hkj h
              rw [Bool.and_eq_false_iff] at this
              rcases this with h | h
              · exfalso
                have hne : Y ≠ [] := by intro e; subst e; simp at hkj
                cases Y with
                | nil => exact hne rfl
                | cons a r => simp at h
              · exact h))
            obtain ⟨y, hy⟩ : ∃ y, y = Y.getD j ByteArray.empty := ⟨_, rfl⟩
            rw [← hy] at hc2 hcall2 Hy2 Hn2
            clear hall2 hy
            cases hy1 : okT y with
            | true =>
              rw [hy1] at hcall2
              have Hcall2 := Lib.hid hcall2
              have Hy3 := Lib.hid (Hy2.out hy1)
              clear hcall2 hy1
              go_wp2_with fail
              refine Hcall2.out.mono ?_
              rintro e w3 ⟨rfl, rfl⟩
              go_wp2_with fail
              go_roundg (gk - 1)
              case measure => omega
              case rel => exact ⟨j + 1, by omega, by go_num, Hy3.out, rfl⟩
            | false =>
              rw [hy1] at hcall2
              have Hcall2 := Lib.hid hcall2
              have Hn3 := Lib.hid (Hn2.out hy1)
              clear hcall2 hy1
              go_wp2_with fail
              refine Hcall2.out.mono ?_
              rintro e w3 ⟨rfl, rfl⟩
              have HBE := Lib.hid (HB1.out.trans (Hb2.out.mono hB1s))
              go_wp2_with fail
              go_ret
              exact ⟨by rw [Hn3.out]; rfl, HBE.out⟩
          · obtain rfl : j = m := by omega
            have hjI : ¬ (j : Int) < (j : Int) := by omega
            rw [show Y.take j = Y by rw [Hm.out, List.take_length]] at hall2
            have Hy3 := Lib.hid (Hyes.out hall2)
            clear hall2
            go_wp2_with fail
            go_roundg (gko - 1)
            case measure => omega
            case rel => exact ⟨i + 1, by omega, by go_num, Hy3.out, Hb2.out⟩
      · obtain rfl : i = n := by omega
        have hnI : ¬ (i : Int) < (i : Int) := by omega
        rw [show X.take i = X by rw [Hn.out, List.take_length]] at hall
        have Hfin := Lib.hid (show F = true by
          rw [HF.out, hall, Bool.and_true]
          have := Hn.out
          cases X with
          | nil => simp at this; omega
          | cons a r => rfl)
        have HB2 := Lib.hid (HB1.out.trans (hB.mono hB1s))
        have hbs := hB.size
        have hiI : (0 : Int) < (i : Int) := by omega
        clear hall hB
        go_wp2_with fail
        refine (HX.out _).mono ?_
        rintro e w4 ⟨v4, rfl, hown4, hB4⟩
        rw [Hn.out] at hown4
        obtain ⟨g4, cap4, rfl, -, -, -, -, -⟩ := row_cells hown4 (by have := Hn.out; omega)
        rw [← Hn.out]
        have HB4 := Lib.hid (HB2.out.trans (hB4.mono (by omega)))
        clear hown4 hB4
        go_wp2_with fail
        go_ret
        exact ⟨by rw [Hfin.out]; rfl, HB4.out⟩
  · obtain rfl : n = 0 := by omega
    have Hfin := Lib.hid (show F = false by
      rw [HF.out]
      have := Hn.out
      cases X with
      | nil => rfl
      | cons a r => simp at this)
    rw [Hn.out] at hown1
    obtain ⟨p1, c1, rfl⟩ := row_none hown1 Hn.out.symm
    have HB1 := Lib.hid hB1
    have hB1s := hB1.size
    clear hown1 hB1
    go_wp2_with fail
    go_loopg [4, 6, 7, 8, 9, 13] 0 (fun g _ _ _ _ _ iv wr => iv = .int .i64 0 ∧ wr = w1)
    case atStart => exact ⟨rfl, rfl⟩
    case round =>
      obtain ⟨rfl, rfl⟩ := hrel
      go_wp2_with fail
      refine (HX.out _).mono ?_
      rintro e w4 ⟨v4, rfl, hown4, hB4⟩
      rw [Hn.out] at hown4
      obtain ⟨p4, c4, rfl⟩ := row_none hown4 Hn.out.symm
      have HB4 := Lib.hid (HB1.out.trans (hB4.mono (by omega)))
      clear hown4 hB4
      go_wp2_with fail
      go_ret
      exact ⟨by rw [Hfin.out]; rfl, HB4.out⟩
end Go.Proofs.YtfkmijdpcenieaaDoor
