/- Walks: the statement PlusBlank. -/
import Derived.Test.YtfkmijdpcenieaaDoorSf
namespace Go.Proofs.YtfkmijdpcenieaaDoor
set_option linter.unusedVariables false
open Go.ChangeShapes Go.WideShapes Go.ChangeAt Go.RowKit

def EndB (b : ByteArray) : Prop := ∃ p c, b.data.toList = p ++ [c] ∧ blank c = true
theorem words_sp (a o : ByteArray) : wordsB (a ++ ⟨#[32]⟩ ++ o) = wordsB a ++ wordsB o :=
  words_mid a o 32 (by decide) (by rw [ba_append, ba_append]; simp)
theorem words_tail {b : ByteArray} (h : EndB b) (o : ByteArray) : wordsB (b ++ o ++ ⟨#[9, 32, 32]⟩) = wordsB b ++ wordsB o ∧ EndB (b ++ o ++ ⟨#[9, 32, 32]⟩) := by
  obtain ⟨p, c, hb, hc⟩ := h
  refine ⟨?_, (p ++ [c]) ++ o.data.toList ++ [9, 32], 32, by rw [ba_append, ba_append, hb]; simp, by decide⟩
  unfold wordsB
  rw [ba_append, ba_append, hb, show (p ++ [c]) ++ o.data.toList ++ (⟨#[9, 32, 32]⟩ : ByteArray).data.toList = p ++ c :: (o.data.toList ++ 9 :: [32, 32]) by simp, wF_split c hc, wF_split 9 (by decide), show p ++ [c] = p ++ c :: [] from rfl, wF_split c hc, show wF [] [] = [] from rfl, show wF [32, 32] [] = [] from rfl]
  simp
theorem sz1 (a : ByteArray) : ((⟨#[]⟩ : ByteArray) ++ a) = a := ba_ext (by rw [ba_append]; rfl)
theorem okL_w {a b : ByteArray} (h : wordsB a = wordsB b) : okL a = okL b ∧ valL a = valL b := by
  unfold okL valL
  rw [h]; exact ⟨rfl, rfl⟩
theorem okL_rev {a b : ByteArray} (h : wordsB a = (wordsB b).reverse) (on : List ByteArray) : okL a = okL b ∧ lineV on a = lineV on b := by
  unfold okL lineV
  rw [h]; simp
theorem rev_take {l : List ByteArray} {i : Nat} (h : i < l.length) : (l.take (i + 1)).reverse = l.getD i ByteArray.empty :: (l.take i).reverse := by
  rw [List.take_succ_eq_append_getElem h]
  simp only [List.reverse_append, List.reverse_cons, List.reverse_nil, List.nil_append, List.cons_append, List.getD_eq_getElem?_getD, List.getElem?_eq_getElem h, Option.getD_some]
theorem tak_one {l : List ByteArray} {i : Nat} (h : i < l.length) : l.take (i + 1) = l.take i ++ [l.getD i ByteArray.empty] := by
  rw [List.take_succ_eq_append_getElem h]
  simp only [List.getD_eq_getElem?_getD, List.getElem?_eq_getElem h, Option.getD_some]
structure BS (l : List ByteArray) (i a : Nat) (A B C : ByteArray) : Prop where
  wa : wordsB A = l.take i
  wb : wordsB B = l.take i
  eb : EndB B
  wc : wordsB C = (l.take i).reverse
  za : A.size ≤ a + i
  zb : B.size ≤ 2 + a + 3 * i
  zc : C.size ≤ a + i
  a0 : i = 0 → A = ⟨#[]⟩
theorem BS.start (l : List ByteArray) : BS l 0 0 ⟨#[]⟩ ⟨#[32, 9]⟩ ⟨#[]⟩ := ⟨rfl, rfl, ⟨[32], 9, rfl, by decide⟩, rfl, by decide, by decide, by decide, fun _ => rfl⟩
theorem BS.step {l : List ByteArray} {i a : Nat} {A B C : ByteArray} (H : BS l i a A B C) (hi : i < l.length) {x : ByteArray} (hx : x = l.getD i ByteArray.empty) (hw : wordsB x = [x]) :
    BS l (i + 1) (a + x.size) (if i = 0 then A ++ x else A ++ ⟨#[32]⟩ ++ x) (B ++ x ++ ⟨#[9, 32, 32]⟩) (x ++ ⟨#[32]⟩ ++ C) := by
  have ht := tak_one hi
  have hr := rev_take hi
  rw [← hx] at ht hr
  obtain ⟨h1, h2⟩ := words_tail H.eb x
  have e3 : (⟨#[9, 32, 32]⟩ : ByteArray).size = 3 := rfl
  have e1 : (⟨#[32]⟩ : ByteArray).size = 1 := rfl
  refine ⟨?_, ?_, h2, ?_, ?_, ?_, ?_, fun h => absurd h (by omega)⟩
  · rw [ht]
    split
    · rename_i h0
      rw [H.a0 h0, sz1, hw, h0]; rfl
    · rw [words_sp, H.wa, hw]
  · rw [h1, H.wb, hw, ht]
  · rw [words_sp, H.wc, hw, hr]; rfl
  · have := H.za
    split <;> (simp only [ByteArray.size_append, e1]; omega)
  · have := H.zb
    simp only [ByteArray.size_append, e3]; omega
  · have := H.zc
    simp only [ByteArray.size_append, e1]; omega

set_option maxRecDepth 100000 in
set_option maxHeartbeats 4000000 in
theorem blank_walk (v u : Value) (l on : List ByteArray) (w : World) (hv : Strs w v l) (hz : ∀ x ∈ l, x.size ≤ 140737488351232) (hl : l.length ≤ 9223372036854775807) (hu : Strs w u on) (hon : on.length ≤ 9223372036854775807) (hm : MaxAt w) :
    Calls Tryd.prog 7 #[v, u] w (LawEnd w) := by
  have HA := Lib.hid (alive_any w hm)
  have Hv := Lib.hid hv
  have Hu := Lib.hid hu
  have Hm := Lib.hid hm
  have HZ := Lib.hid hz
  obtain ⟨p, cap, rfl, hp⟩ := strs_shape hv
  obtain ⟨q, cq, rfl, _⟩ := strs_shape hu
  have Hp := Lib.hid hp
  obtain ⟨n, hn⟩ : ∃ n, n = l.length := ⟨_, rfl⟩
  rw [← hn] at Hp hl Hv ⊢
  have Hn := Lib.hid hn
  clear hv hz hm hp hn hu
  by_cases h10 : n ≤ 10
  · have h10I : ¬ (10 : Int) < (n : Int) := by omega
    by_cases hn0 : 0 < n
    · have hn0I : ((n : Int) == 0) = false := by rw [beq_eq_false_iff_ne]; omega
      by_cases h60 : on.length ≤ 60
      · have h60I : ¬ (60 : Int) < (on.length : Int) := by omega
        obtain ⟨b, off, rfl, hb, hcap, hmax, hcell⟩ := Hp.out hn0
        have HC := Lib.hid (fun w1 (h1 : Below w.heap.size w w1) j (hj : j < n) => (h1.cell (p := ⟨b, off + j, none⟩) hb).trans (hcell j hj))
        unfold maxLen at hmax
        clear hcell
        go_enter Tryd.func7, Tryd.ntmps7
        go_wp2_with fail
        refine HA.out.mono ?_
        rintro e w1 ⟨rfl, hB⟩
        go_wp2_with fail
        go_loopg [5, 6, 7, 8, 9, 10, 42] n (fun g Av Bv Cv av _ _ iv wr => ∃ (i a : Nat) (A B C : ByteArray), i + g = n ∧ iv = .int .i64 i ∧ av = .int .i64 a ∧ Av = .string A ∧ Bv = .string B ∧ Cv = .string C ∧ a ≤ 200 ∧ BS l i a A B C ∧ Below w.heap.size w wr)
        case atStart => exact ⟨0, 0, _, _, _, by omega, rfl, rfl, rfl, rfl, rfl, by omega, BS.start l, hB⟩
        case round =>
          obtain ⟨i, a, A, B, C, hig, rfl, rfl, rfl, rfl, rfl, ha, hS, hBr⟩ := hrel
          clear hB
          have hzA := hS.za
          have hzB := hS.zb
          have hzC := hS.zc
          have HS := Lib.hid hS
          clear hS
          by_cases hlt : i < n
          · have hltI : (i : Int) < (n : Int) := by omega
            have hkl : i < l.length := by have := Hn.out; omega
            have hc := HC.out wr hBr i hlt
            have hbr : b < wr.heap.size := Nat.lt_of_lt_of_le hb hBr.size
            have hxz := HZ.out _ (getD_mem hkl)
            obtain ⟨x, hx⟩ : ∃ x, x = l.getD i ByteArray.empty := ⟨_, rfl⟩
            rw [← hx] at hc hxz
            have Hx := Lib.hid hx
            clear hx
            by_cases h2 : 200 < a + x.size
            · have h2I : (200 : Int) < (a : Int) + (x.size : Int) := by omega
              go_wp2_with fail
              go_ret
              exact ⟨rfl, hBr⟩
            · have h2I : ¬ (200 : Int) < (a : Int) + (x.size : Int) := by omega
              have HW := Lib.hid (fun w1 => rwords_any x w1 (by omega))
              have HSt := Lib.hid (fun (hw : wordsB x = [x]) => HS.out.step hkl Hx.out hw)
              obtain ⟨L, hL⟩ : ∃ L, L = wordsB x := ⟨_, rfl⟩
              rw [← hL] at HW HSt
              obtain ⟨m, hm2⟩ : ∃ m, m = L.length := ⟨_, rfl⟩
              rw [← hm2] at HW
              have Hm2 := Lib.hid hm2
              have hmz : m ≤ 200 := by
                have := (sums_words x).2
                rw [← hL, ← hm2] at this
                omega
              clear hL hm2
              by_cases h1 : m = 1
              · subst h1
                obtain ⟨y, rfl⟩ : ∃ y, L = [y] := by
                  have := Hm2.out
                  match L, this with
                  | [y], _ => exact ⟨y, rfl⟩
                by_cases hxy : y = x
                · subst hxy
                  have hne : (y.toList != y.toList) = false := by simp
                  have HS2 := Lib.hid (HSt.out rfl)
                  clear HSt
                  by_cases hi0 : i = 0
                  · have hiI : ¬ (0 : Int) < (i : Int) := by omega
                    rw [if_pos hi0] at HS2
                    clear hi0
                    go_wp2_with fail
                    refine (HW.out _).mono ?_
                    rintro e w2 ⟨v2, rfl, hown2, hB2⟩
                    obtain ⟨p2, cap2, rfl, -⟩ := strs_shape (Strs.ofRow hown2)
                    replace hBr := hBr.trans (hB2.mono hBr.size)
                    clear hB2 hown2
                    go_wp2_with fail
                    refine (HW.out _).mono ?_
                    rintro e w3 ⟨v3, rfl, hown3, hB3⟩
                    obtain ⟨g3, cap3, rfl, -, hg3l, hg3c, hg3m, hcl3⟩ := row_cells hown3 (Nat.succ_pos 0)
                    have hc3 := hcl3 0 (Nat.succ_pos 0)
                    rw [show [y].getD 0 ByteArray.empty = y from rfl] at hc3
                    replace hBr := hBr.trans (hB3.mono hBr.size)
                    clear hB3 hown3 hcl3
                    go_wp2_with fail
                    go_roundg (gk - 1)
                    case measure => omega
                    case rel => exact ⟨_, a + y.size, _, _, _, by omega, by go_num, by go_num, rfl, rfl, rfl, by omega, HS2.out, hBr⟩
                  · have hiI : (0 : Int) < (i : Int) := by omega
                    rw [if_neg hi0] at HS2
                    go_wp2_with fail
                    refine (HW.out _).mono ?_
                    rintro e w2 ⟨v2, rfl, hown2, hB2⟩
                    obtain ⟨p2, cap2, rfl, -⟩ := strs_shape (Strs.ofRow hown2)
                    replace hBr := hBr.trans (hB2.mono hBr.size)
                    clear hB2 hown2
                    go_wp2_with fail
                    refine (HW.out _).mono ?_
                    rintro e w3 ⟨v3, rfl, hown3, hB3⟩
                    obtain ⟨g3, cap3, rfl, -, hg3l, hg3c, hg3m, hcl3⟩ := row_cells hown3 (Nat.succ_pos 0)
                    have hc3 := hcl3 0 (Nat.succ_pos 0)
                    rw [show [y].getD 0 ByteArray.empty = y from rfl] at hc3
                    replace hBr := hBr.trans (hB3.mono hBr.size)
                    clear hB3 hown3 hcl3
                    go_wp2_with fail
                    go_roundg (gk - 1)
                    case measure => omega
                    case rel => exact ⟨_, a + y.size, _, _, _, by omega, by go_num, by go_num, rfl, rfl, rfl, by omega, HS2.out, hBr⟩
                · have hne : (y.toList != x.toList) = true := by unfold bne; rw [beq_of_ne hxy]; rfl
                  have hne2 : (y.toList == x.toList) = false := beq_of_ne hxy
                  clear HSt
                  go_wp2_with fail
                  refine (HW.out _).mono ?_
                  rintro e w2 ⟨v2, rfl, hown2, hB2⟩
                  obtain ⟨p2, cap2, rfl, -⟩ := strs_shape (Strs.ofRow hown2)
                  replace hBr := hBr.trans (hB2.mono hBr.size)
                  clear hB2 hown2
                  go_wp2_with fail
                  refine (HW.out _).mono ?_
                  rintro e w3 ⟨v3, rfl, hown3, hB3⟩
                  obtain ⟨g3, cap3, rfl, -, hg3l, hg3c, hg3m, hcl3⟩ := row_cells hown3 (Nat.succ_pos 0)
                  have hc3 := hcl3 0 (Nat.succ_pos 0)
                  rw [show [y].getD 0 ByteArray.empty = y from rfl] at hc3
                  replace hBr := hBr.trans (hB3.mono hBr.size)
                  clear hB3 hown3 hcl3
                  go_wp2_with fail
                  go_ret
                  exact ⟨rfl, hBr⟩
              · have hne : ((m : Int) != 1) = true := by rw [bne_iff_ne]; omega
                clear HSt
                go_wp2_with fail
                refine (HW.out _).mono ?_
                rintro e w2 ⟨v2, rfl, hown2, hB2⟩
                rw [Hm2.out] at hown2
                obtain ⟨p2, cap2, rfl, -⟩ := strs_shape (Strs.ofRow hown2)
                rw [← Hm2.out]
                replace hBr := hBr.trans (hB2.mono hBr.size)
                clear hB2 hown2
                go_wp2_with fail
                go_ret
                exact ⟨rfl, hBr⟩
          · obtain rfl : i = n := by omega
            have hnI : ¬ (i : Int) < (i : Int) := by omega
            have hwa := HS.out.wa
            have hwb := HS.out.wb
            have hwc := HS.out.wc
            rw [show l.take i = l by rw [Hn.out, List.take_length]] at hwa hwb hwc
            have e1 := okL_w (hwb.trans hwa.symm)
            have e2 := okL_rev (hwc.trans (by rw [hwa])) on
            have HLa := Lib.hid (fun w1 (h1 : Below w.heap.size w w1) => line_any A w1 (by omega) (Hm.out.below Hm.out.1 h1))
            have HLb := Lib.hid (fun w1 (h1 : Below w.heap.size w w1) => line_any B w1 (by omega) (Hm.out.below Hm.out.1 h1))
            have HLc := Lib.hid (fun w1 (h1 : Below w.heap.size w w1) => line_any C w1 (by omega) (Hm.out.below Hm.out.1 h1))
            rw [e1.1, e1.2] at HLb
            cases hk : okL A with
            | false =>
              rw [e2.1, hk] at HLc
              rw [hk] at HLa HLb
              simp only [Bool.false_eq_true, reduceIte, noneB] at HLa HLb HLc
              clear e1 e2 hwa hwb hwc hk
              go_wp2_with fail
              refine (HLa.out _ hBr).mono ?_
              rintro e w2 ⟨rfl, hB2⟩
              replace hBr := hBr.trans (hB2.mono hBr.size)
              clear hB2
              go_wp2_with fail
              refine (HLb.out _ hBr).mono ?_
              rintro e w3 ⟨rfl, hB3⟩
              replace hBr := hBr.trans (hB3.mono hBr.size)
              clear hB3
              go_wp2_with fail
              refine (HLc.out _ hBr).mono ?_
              rintro e w4 ⟨rfl, hB4⟩
              replace hBr := hBr.trans (hB4.mono hBr.size)
              clear hB4
              go_wp2_with fail
              go_ret
              exact ⟨rfl, hBr⟩
            | true =>
              have hkc : okL C = true := e2.1.trans hk
              have za := valL_sharp hk
              have zc := valL_sharp hkc
              obtain ⟨c1, hc1, hc2, hc3, hc4⟩ := read_both (line_reads on hk) (by decide) (by omega)
              obtain ⟨d1, hd1, hd2, hd3, hd4⟩ := read_both (line_reads on hkc) (by decide) (by omega)
              rw [e2.2] at hd2
              rw [hkc] at HLc
              rw [hk] at HLa HLb
              simp only [reduceIte] at HLa HLb HLc
              have HPa := Lib.hid (fun w1 => parse_any (valL A) w1 (by omega))
              have HPc := Lib.hid (fun w1 => parse_any (valL C) w1 (by omega))
              unfold Parsed at HPa HPc
              rw [hc1] at HPa
              rw [hd1] at HPc
              simp only at HPa HPc
              have HEa := Lib.hid (fun vv w1 (hvv : Strs w1 vv c1) (huu : Strs w1 (.slice q on.length cq) on) => eval_any vv _ c1 on w1 hvv huu (by omega) (by omega) (fun y hy => by have := hc4 y hy; omega))
              have HEc := Lib.hid (fun vv w1 (hvv : Strs w1 vv d1) (huu : Strs w1 (.slice q on.length cq) on) => eval_any vv _ d1 on w1 hvv huu (by omega) (by omega) (fun y hy => by have := hd4 y hy; omega))
              rw [hc2] at HEa
              rw [hd2] at HEc
              unfold Evald at HEa HEc
              simp only at HEa HEc
              obtain ⟨X, hX⟩ : ∃ X, X = valL A := ⟨_, rfl⟩
              obtain ⟨Z, hZ⟩ : ∃ Z, Z = valL C := ⟨_, rfl⟩
              rw [← hX] at HLa HLb HPa
              rw [← hZ] at HLc HPc
              obtain ⟨F, hF⟩ : ∃ F, F = lineV on A := ⟨_, rfl⟩
              rw [← hF] at HEa HEc
              have hxx : (X.toList != X.toList) = false := by simp
              have hxx2 : (X.toList == X.toList) = true := by simp
              clear e1 e2 hwa hwb hwc hk hkc za zc hc1 hc2 hc3 hc4 hd1 hd2 hd3 hd4 hX hZ hF
              cases F
              all_goals
                go_wp2_with fail
                refine (HLa.out _ hBr).mono ?_
                rintro e w2 ⟨rfl, hB2⟩
                replace hBr := hBr.trans (hB2.mono hBr.size)
                clear hB2
                go_wp2_with fail
                refine (HLb.out _ hBr).mono ?_
                rintro e w3 ⟨rfl, hB3⟩
                replace hBr := hBr.trans (hB3.mono hBr.size)
                clear hB3
                go_wp2_with fail
                refine (HLc.out _ hBr).mono ?_
                rintro e w4 ⟨rfl, hB4⟩
                replace hBr := hBr.trans (hB4.mono hBr.size)
                clear hB4
                go_wp2_with fail
                refine (HPa.out _).mono ?_
                rintro e w5 ⟨v5, rfl, hv5, hB5⟩
                replace hBr := hBr.trans (hB5.mono hBr.size)
                have Hv5 := Lib.hid hv5
                clear hB5 hv5
                go_wp2_with fail
                refine (HPc.out _).mono ?_
                rintro e w6 ⟨v6, rfl, hv6, hB6⟩
                replace hBr := hBr.trans (hB6.mono hBr.size)
                have Hv6 := Lib.hid hv6
                have Hv5' := Lib.hid (Hv5.out.below hB6)
                clear hB6 hv6
                go_wp2_with fail
                refine (HEa.out _ _ Hv5'.out (Hu.out.below hBr)).mono ?_
                rintro e w7 ⟨rfl, hB7⟩
                replace hBr := hBr.trans (hB7.mono hBr.size)
                have Hv6' := Lib.hid (Hv6.out.below hB7)
                clear hB7
                go_wp2_with fail
                refine (HEc.out _ _ Hv6'.out (Hu.out.below hBr)).mono ?_
                rintro e w8 ⟨rfl, hB8⟩
                replace hBr := hBr.trans (hB8.mono hBr.size)
                clear hB8
                go_wp2_with fail
                go_ret
                exact ⟨rfl, hBr⟩
      · have h60I : (60 : Int) < (on.length : Int) := by omega
        go_enter Tryd.func7, Tryd.ntmps7
        go_wp2_with fail
        refine HA.out.mono ?_
        rintro e w1 ⟨rfl, hB⟩
        go_wp2_with fail
        go_ret
        exact ⟨rfl, hB⟩
    · obtain rfl : n = 0 := by omega
      go_enter Tryd.func7, Tryd.ntmps7
      go_wp2_with fail
      refine HA.out.mono ?_
      rintro e w1 ⟨rfl, hB⟩
      go_wp2_with fail
      go_ret
      exact ⟨rfl, hB⟩
  · have h10I : (10 : Int) < (n : Int) := by omega
    go_enter Tryd.func7, Tryd.ntmps7
    go_wp2_with fail
    refine HA.out.mono ?_
    rintro e w1 ⟨rfl, hB⟩
    go_wp2_with fail
    go_ret
    exact ⟨rfl, hB⟩
end Go.Proofs.YtfkmijdpcenieaaDoor
