/- Walks: the statements PlusOne, PlusMeans, PlusBlank. -/
import Derived.Test.YtfkmijdpcenieaaDoorSd
namespace Go.Proofs.YtfkmijdpcenieaaDoor
set_option linter.unusedVariables false
open Go.ChangeShapes Go.WideShapes Go.ChangeAt Go.RowKit

theorem okLs_is (l : List ByteArray) : okLs l = (decide (0 < l.length) && l.all okL) := by
  unfold okLs
  cases l <;> rfl
theorem line_pair (s : ByteArray) (b : Bool) (h : okL s = b) (w : World) (hs : s.size ≤ 4194304) (hm : MaxAt w) :
    Calls Tryd.prog 10 #[.string s] w fun e w' => e = .returned (.tuple #[.string (if b then valL s else noneB), .int .i64 (if b then 0 else 4)]) ∧ Below w.heap.size w w' := by
  subst h
  exact line_any s w hs hm

set_option maxRecDepth 100000 in
set_option maxHeartbeats 2000000 in
theorem one_walk (v : Value) (t : ByteArray) (l : List ByteArray) (w : World) (hs : t.size ≤ 140737488351232) (hv : Strs w v l) (hz : ∀ x ∈ l, x.size ≤ 140737488351232) (hl : l.length ≤ 9223372036854775807) (hm : MaxAt w) :
    Calls Tryd.prog 6 #[.string t, v] w (LawEnd w) := by
  have HA := Lib.hid (alive_any w hm)
  have HG := Lib.hid (fun w1 (h1 : Below w.heap.size w w1) => great_any v l w1 (hv.below h1) hz hl)
  obtain ⟨G, hG⟩ : ∃ G, G = greatB l := ⟨_, rfl⟩
  rw [← hG] at HG
  cases G with
  | true =>
    obtain ⟨p, cap, rfl, _⟩ := strs_shape hv
    clear hv hz hm hG
    go_enter Tryd.func6, Tryd.ntmps6
    go_wp2_with fail
    refine HA.out.mono ?_
    rintro e w1 ⟨rfl, hB⟩
    go_wp2_with fail
    refine (HG.out _ hB).mono ?_
    rintro e w2 ⟨rfl, rfl⟩
    go_wp2_with fail
    go_ret
    exact ⟨rfl, hB⟩
  | false =>
    obtain ⟨g1, g2⟩ := great_no hG.symm
    by_cases hss : t.size ≤ 512
    · have hsI : ¬ (512 : Int) < (t.size : Int) := by omega
      have HM := Lib.hid (fun w1 (h1 : Below w.heap.size w w1) => lines_any v l w1 (hv.below h1) (by omega) (by omega) (hm.below hm.1 h1))
      have HL := Lib.hid (fun (x : ByteArray) (hx : x ∈ l) w1 (h1 : Below w.heap.size w w1) => line_any x w1 (by have := sums_mem l x hx; omega) (hm.below hm.1 h1))
      have HT := Lib.hid (fun w1 => tag_any t w1 (by omega))
      have HP := Lib.hid (fun (h : tagB t = true) w1 (h1 : Below w.heap.size w w1) => line_pair t true (tag_lines h).1.1 w1 (by omega) (hm.below hm.1 h1))
      have HQ := Lib.hid (fun (h : tagB t = true) w1 (h1 : Below w.heap.size w w1) => line_pair (spT t) true (tag_lines h).2.1 w1 (by rw [spT_size]; omega) (hm.below hm.1 h1))
      have HV := Lib.hid (fun (h : tagB t = true) => And.intro (tag_lines h).1.2 (tag_lines h).2.2)
      simp only [reduceIte] at HP HQ
      obtain ⟨p, cap, rfl, hp⟩ := strs_shape hv
      have Hp := Lib.hid hp
      have hok := okLs_is l
      obtain ⟨F, hF⟩ : ∃ F, F = okLs l := ⟨_, rfl⟩
      rw [← hF] at HM hok
      obtain ⟨Y, hY⟩ : ∃ Y, Y = (if F = true then valLs l else noneB) := ⟨_, rfl⟩
      rw [← hY] at HM
      obtain ⟨n, hn⟩ : ∃ n, n = l.length := ⟨_, rfl⟩
      rw [← hn] at Hp hl g2 hok HG HM ⊢
      have Hn := Lib.hid hn
      have HF := Lib.hid hok
      clear hv hz hm hG hp hn hY hok hF
      go_enter Tryd.func6, Tryd.ntmps6
      go_wp2_with fail
      refine HA.out.mono ?_
      rintro e w1 ⟨rfl, hB⟩
      go_wp2_with fail
      refine (HG.out _ hB).mono ?_
      rintro e w2 ⟨rfl, rfl⟩
      by_cases hn0 : 0 < n
      · have hn0I : (0 : Int) < (n : Int) := by omega
        obtain ⟨b, off, rfl, hb, hcap, hmax, hcell⟩ := Hp.out hn0
        have HC := Lib.hid (fun w1 (h1 : Below w.heap.size w w1) j (hj : j < n) => (h1.cell (p := ⟨b, off + j, none⟩) hb).trans (hcell j hj))
        rw [decide_eq_true hn0, Bool.true_and] at HF
        unfold maxLen at hmax
        clear hcell
        go_wp2_with fail
        go_loopg [5, 7, 8, 9, 30] n (fun g gv _ _ _ iv wr => ∃ (i : Nat) (G : Bool), i + g = n ∧ iv = .int .i64 i ∧ gv = .bool G ∧ G = (l.take i).all okL ∧ Below w.heap.size w wr)
        case atStart => exact ⟨0, true, by omega, rfl, rfl, rfl, hB⟩
        case round =>
          obtain ⟨i, G, hig, rfl, rfl, hG, hBr⟩ := hrel
          by_cases hlt : i < n
          · have hltI : (i : Int) < (n : Int) := by omega
            have hkl : i < l.length := by have := Hn.out; omega
            have hc := HC.out wr hBr i hlt
            have hbr : b < wr.heap.size := Nat.lt_of_lt_of_le hb hBr.size
            have Hcall := Lib.hid (HL.out _ (getD_mem hkl) wr hBr)
            have Hts := Lib.hid (all_succ hkl)
            rw [← hG] at Hts
            obtain ⟨x, hx⟩ : ∃ x, x = l.getD i ByteArray.empty := ⟨_, rfl⟩
            rw [← hx] at hc Hcall Hts
            clear hx hG hB
            cases hk : okL x <;> cases G
            all_goals
              rw [hk] at Hcall Hts
              simp only [reduceIte, Bool.false_eq_true] at Hcall
              go_wp2_with fail
              refine Hcall.out.mono ?_
              rintro e w3 ⟨rfl, hB3⟩
              have hb3 := hBr.trans (hB3.mono hBr.size)
              clear hB3
              go_wp2_with fail
              go_roundg (gk - 1)
              case measure => omega
              case rel => exact ⟨i + 1, _, by omega, by go_num, rfl, by rw [Hts.out]; rfl, hb3⟩
          · obtain rfl : i = n := by omega
            have hnI : ¬ (i : Int) < (i : Int) := by omega
            rw [show l.take i = l by rw [Hn.out, List.take_length], ← HF.out] at hG
            subst hG
            clear hB
            have hB := hBr
            clear hBr
            cases G
            all_goals
              simp only [reduceIte, Bool.false_eq_true] at HM
              go_wp2_with fail
              refine (HM.out _ hB).mono ?_
              rintro e w4 ⟨rfl, hB4⟩
              replace hB := hB.trans (hB4.mono hB.size)
              clear hB4
              go_wp2_with fail
              refine (HT.out _).mono ?_
              rintro e w5 ⟨rfl, rfl⟩
              cases ht : tagB t with
              | false =>
                go_wp2_with fail
                go_ret
                exact ⟨rfl, hB⟩
              | true =>
                obtain ⟨h1, h2⟩ := HV.out ht
                have HP1 := Lib.hid (HP.out ht)
                have HQ1 := Lib.hid (HQ.out ht)
                rw [h1] at HP1
                rw [h2] at HQ1
                unfold spT notT at HQ1
                have hx1 : (t.toList == t.toList) = true := by simp
                have hx2 : (((⟨#[33]⟩ : ByteArray) ++ t).toList == ((⟨#[33]⟩ : ByteArray) ++ t).toList) = true := by simp
                clear HP HQ HV h1 h2 ht
                go_wp2_with fail
                refine (HP1.out _ hB).mono ?_
                rintro e w6 ⟨rfl, hB4⟩
                replace hB := hB.trans (hB4.mono hB.size)
                clear hB4
                go_wp2_with fail
                refine (HQ1.out _ hB).mono ?_
                rintro e w7 ⟨rfl, hB4⟩
                replace hB := hB.trans (hB4.mono hB.size)
                clear hB4
                go_wp2_with fail
                go_ret
                exact ⟨rfl, hB⟩
      · obtain rfl : n = 0 := by omega
        have hn0I : ¬ (0 : Int) < ((0 : Nat) : Int) := by omega
        obtain rfl : F = false := by rw [HF.out]; rfl
        go_wp2_with fail
        go_loopg [5, 7, 8, 9, 30] 0 (fun g gv _ _ _ iv wr => iv = .int .i64 0 ∧ gv = .bool false ∧ Below w.heap.size w wr)
        case atStart => exact ⟨rfl, rfl, hB⟩
        case round =>
          obtain ⟨rfl, rfl, hBr⟩ := hrel
          clear hB
          have hB := hBr
          clear hBr
          simp only [reduceIte, Bool.false_eq_true] at HM
          go_wp2_with fail
          refine (HM.out _ hB).mono ?_
          rintro e w4 ⟨rfl, hB4⟩
          replace hB := hB.trans (hB4.mono hB.size)
          clear hB4
          go_wp2_with fail
          refine (HT.out _).mono ?_
          rintro e w5 ⟨rfl, rfl⟩
          cases ht : tagB t with
          | false =>
            go_wp2_with fail
            go_ret
            exact ⟨rfl, hB⟩
          | true =>
            obtain ⟨h1, h2⟩ := HV.out ht
            have HP1 := Lib.hid (HP.out ht)
            have HQ1 := Lib.hid (HQ.out ht)
            rw [h1] at HP1
            rw [h2] at HQ1
            unfold spT notT at HQ1
            have hx1 : (t.toList == t.toList) = true := by simp
            have hx2 : (((⟨#[33]⟩ : ByteArray) ++ t).toList == ((⟨#[33]⟩ : ByteArray) ++ t).toList) = true := by simp
            clear HP HQ HV h1 h2 ht
            go_wp2_with fail
            refine (HP1.out _ hB).mono ?_
            rintro e w6 ⟨rfl, hB4⟩
            replace hB := hB.trans (hB4.mono hB.size)
            clear hB4
            go_wp2_with fail
            refine (HQ1.out _ hB).mono ?_
            rintro e w7 ⟨rfl, hB4⟩
            replace hB := hB.trans (hB4.mono hB.size)
            clear hB4
            go_wp2_with fail
            go_ret
            exact ⟨rfl, hB⟩
    · have hsI : (512 : Int) < (t.size : Int) := by omega
      obtain ⟨p, cap, rfl, _⟩ := strs_shape hv
      clear hv hz hm hG
      go_enter Tryd.func6, Tryd.ntmps6
      go_wp2_with fail
      refine HA.out.mono ?_
      rintro e w1 ⟨rfl, hB⟩
      go_wp2_with fail
      refine (HG.out _ hB).mono ?_
      rintro e w2 ⟨rfl, rfl⟩
      go_wp2_with fail
      go_ret
      exact ⟨rfl, hB⟩


/-! ### Holds -/
theorem any_take {V : ByteArray → Bool} {X : List ByteArray} {i : Nat} (h : i < X.length) : (X.take (i + 1)).any V = ((X.take i).any V || V (X.getD i ByteArray.empty)) := by
  rw [List.take_succ_eq_append_getElem h]
  simp only [List.any_append, List.any_cons, List.any_nil, Bool.or_false, List.getD_eq_getElem?_getD, List.getElem?_eq_getElem h, Option.getD_some]
theorem alls_take {V : ByteArray → Bool} {X : List ByteArray} {i : Nat} (h : i < X.length) : (X.take (i + 1)).all V = ((X.take i).all V && V (X.getD i ByteArray.empty)) := by
  rw [List.take_succ_eq_append_getElem h]
  simp only [List.all_append, List.all_cons, List.all_nil, Bool.and_true, List.getD_eq_getElem?_getD, List.getElem?_eq_getElem h, Option.getD_some]
theorem optV_is (on : List ByteArray) (o : ByteArray) : optV on o = (cutB 44 o).all (termV on) := rfl
set_option maxRecDepth 100000 in
set_option maxHeartbeats 2000000 in
theorem holds_any (u : Value) (s : ByteArray) (on : List ByteArray) (w : World) (hs : s.size ≤ 65536) (hu : Strs w u on) :
    Calls Tryd.prog 18 #[.string s, u] w fun e w' => e = .returned (.bool (lineV on s)) ∧ Below w.heap.size w w' := by
  have HX := Lib.hid (rwords_any s w (by omega))
  have hxl := (sums_words s).1
  have hxn := (sums_words s).2
  have hxm := sums_mem (wordsB s)
  have hok : lineV on s = (wordsB s).any (optV on) := rfl
  rw [hok]
  obtain ⟨X, hXe⟩ : ∃ X, X = wordsB s := ⟨_, rfl⟩
  rw [← hXe] at HX hxl hxn hxm ⊢
  have HE := Lib.hid (fun (x : ByteArray) (hx : x ∈ X) w1 => rcut_any x 44 w1 (by have := hxm x hx; omega))
  rw [show ((44 : UInt8).toNat : Int) = 44 from rfl] at HE
  have HZ := Lib.hid (fun (x : ByteArray) (hx : x ∈ X) => hxm x hx)
  obtain ⟨n, hn⟩ : ∃ n, n = X.length := ⟨_, rfl⟩
  rw [← hn] at HX hxn
  have Hn := Lib.hid hn
  have HI := Lib.hid (fun (y : ByteArray) w1 (h1 : Below w.heap.size w w1) => in_any u on y w1 (hu.below h1))
  obtain ⟨pu, cu, rfl, _⟩ := strs_shape hu
  clear hxm hXe hn hok hu
  go_enter Tryd.func18, Tryd.ntmps18
  go_wp2_with fail
  refine HX.out.mono ?_
  rintro e w1 ⟨v1, rfl, hown1, hB1⟩
  rw [Hn.out] at hown1
  obtain ⟨p1, cap1, rfl, hp1⟩ := strs_shape (Strs.ofRow hown1)
  rw [← Hn.out] at hp1 ⊢
  have Hp1 := Lib.hid hp1
  have HB1 := Lib.hid hB1
  have hB1s := hB1.size
  clear hown1 hp1 hB1 HX
  go_wp2_with fail
  go_loopg [6, 7, 9, 10, 11, 12, 16] n (fun g _ _ _ _ _ _ iv wr => ∃ i : Nat, i + g = n ∧ iv = .int .i64 i ∧ (X.take i).any (optV on) = false ∧ Below w1.heap.size w1 wr)
  case atStart => exact ⟨0, by omega, rfl, rfl, Below.refl _ _⟩
  case round =>
    obtain ⟨i, hig, rfl, hany, hB⟩ := hrel
    by_cases hlt : i < n
    · have hltI : (i : Int) < (n : Int) := by omega
      obtain ⟨g1, off1, rfl, hg1l, hg1c, hg1m, hcl1⟩ := Hp1.out (by omega)
      have hkl : i < X.length := by have := Hn.out; omega
      have hc := (hB.cell (p := ⟨g1, off1 + i, none⟩) hg1l).trans (hcl1 i hlt)
      have hgr : g1 < wr.heap.size := Nat.lt_of_lt_of_le hg1l hB.size
      unfold maxLen at hg1m
      have hcall := HE.out _ (getD_mem hkl) wr
      have hxz := HZ.out _ (getD_mem hkl)
      have hyl := sums_cutB 44 (X.getD i ByteArray.empty)
      have hym := sums_mem (cutB 44 (X.getD i ByteArray.empty))
      have hat := any_take (V := optV on) hkl
      rw [hany, Bool.false_or, optV_is] at hat
      have Hyes := Lib.hid (fun (h : optV on (X.getD i ByteArray.empty) = true) => (List.any_eq_true.2 ⟨_, getD_mem hkl, h⟩ : X.any (optV on) = true))
      rw [optV_is] at Hyes
      have Hat := Lib.hid hat
      obtain ⟨x, hx⟩ : ∃ x, x = X.getD i ByteArray.empty := ⟨_, rfl⟩
      rw [← hx] at hc hcall hxz hyl hym Hyes Hat
      obtain ⟨Y, hY⟩ : ∃ Y, Y = cutB 44 x := ⟨_, rfl⟩
      rw [← hY] at hcall hyl hym Hyes Hat
      obtain ⟨m, hm⟩ : ∃ m, m = Y.length := ⟨_, rfl⟩
      have Hm := Lib.hid hm
      rw [← hm] at hcall hyl
      have hmz : m ≤ 65537 := by omega
      have HT := Lib.hid (fun (y : ByteArray) (hy : y ∈ Y) w1 => rterm_any y w1 (by have := hym y hy; omega))
      have Hcall := Lib.hid hcall
      have hBs := hB.size
      clear hcall hx hY hm hany hym hat hcl1
      obtain ⟨gko, rfl⟩ : ∃ g, g = gk := ⟨gk, rfl⟩
      obtain ⟨wo, rfl⟩ : ∃ wo, wo = wr := ⟨wr, rfl⟩
      go_wp2_with fail
      refine Hcall.out.mono ?_
      rintro e w2 ⟨v2, rfl, hown2, hB2⟩
      rw [Hm.out] at hown2
      obtain ⟨p2, cap2, rfl, hp2⟩ := strs_shape (Strs.ofRow hown2)
      rw [← Hm.out] at hp2 ⊢
      have Hp2 := Lib.hid hp2
      have hb2 := hB.trans (hB2.mono hBs)
      have hb2s := hb2.size
      have Hb2 := Lib.hid hb2
      have HBE := Lib.hid (HB1.out.trans (hb2.mono hB1s))
      clear hown2 hp2 hB2 hb2 hB
      go_wp2_with fail
      go_loopg [7, 9, 10, 11, 12, 23] m (fun g av _ _ _ _ jv wr => ∃ (j : Nat) (A : Bool), j + g = m ∧ jv = .int .i64 j ∧ av = .bool A ∧ A = (Y.take j).all (termV on) ∧ wr = w2)
      case atStart => exact ⟨0, true, by omega, rfl, rfl, rfl, rfl⟩
      case round =>
        obtain ⟨j, A, hjg, rfl, rfl, hA, rfl⟩ := hrel
        by_cases hjm : j < m
        · have hjI : (j : Int) < (m : Int) := by omega
          obtain ⟨g2, off2, rfl, hg2l, hg2c, hg2m, hcl2⟩ := Hp2.out (by omega)
          have hkj : j < Y.length := by have := Hm.out; omega
          have hc2 := hcl2 j hjm
          unfold maxLen at hg2m
          have Hcall2 := Lib.hid (HT.out _ (getD_mem hkj) wr)
          have Hcall3 := Lib.hid (HI.out (trimB (Y.getD j ByteArray.empty)) wr HBE.out)
          have hat2 := alls_take (V := termV on) hkj
          rw [← hA] at hat2
          unfold termV at hat2
          have Hat2 := Lib.hid hat2
          rw [show ((fun t => inB on (trimB t) != isNot t) : ByteArray → Bool) = termV on from rfl] at Hat2
          obtain ⟨y, hy⟩ : ∃ y, y = Y.getD j ByteArray.empty := ⟨_, rfl⟩
          rw [← hy] at hc2 Hcall2 Hcall3 Hat2
          generalize trimB y = ty at *
          generalize isNot y = nb at *
          generalize inB on ty = ib at *
          generalize okT y = ob at *
          clear hA hy hat2 hcl2 Hcall HE
          cases A
          · go_wp2_with fail
            refine Hcall2.out.mono ?_
            rintro e w3 ⟨rfl, rfl⟩
            go_wp2_with fail
            go_roundg (gk - 1)
            case measure => omega
            case rel => exact ⟨j + 1, _, by omega, by go_num, rfl, by rw [Hat2.out]; rfl, rfl⟩
          · cases ib <;> cases nb
            all_goals
              go_wp2_with fail
              refine Hcall2.out.mono ?_
              rintro e w3 ⟨rfl, rfl⟩
              go_wp2_with fail
              refine Hcall3.out.mono ?_
              rintro e w4 ⟨rfl, rfl⟩
              go_wp2_with fail
              go_roundg (gk - 1)
              case measure => omega
              case rel => exact ⟨j + 1, _, by omega, by go_num, rfl, by rw [Hat2.out]; rfl, rfl⟩
        · obtain rfl : j = m := by omega
          have hjI : ¬ (j : Int) < (j : Int) := by omega
          rw [show Y.take j = Y by rw [Hm.out, List.take_length]] at hA
          rw [← hA] at Hat Hyes
          clear hA
          cases A
          · go_wp2_with fail
            go_roundg (gko - 1)
            case measure => omega
            case rel => exact ⟨i + 1, by omega, by go_num, Hat.out, Hb2.out⟩
          · have Hfin := Lib.hid (Hyes.out rfl)
            go_wp2_with fail
            go_ret
            exact ⟨by rw [Hfin.out]; rfl, HBE.out⟩
    · obtain rfl : i = n := by omega
      have hnI : ¬ (i : Int) < (i : Int) := by omega
      rw [show X.take i = X by rw [Hn.out, List.take_length]] at hany
      have Hfin := Lib.hid hany
      have HB2 := Lib.hid (HB1.out.trans (hB.mono hB1s))
      clear hany hB
      go_wp2_with fail
      go_ret
      exact ⟨by rw [Hfin.out]; rfl, HB2.out⟩

end Go.Proofs.YtfkmijdpcenieaaDoor
