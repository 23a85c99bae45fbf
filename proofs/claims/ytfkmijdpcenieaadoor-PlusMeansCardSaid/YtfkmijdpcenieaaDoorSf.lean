/- Walks: the statement PlusMeans. -/
import Derived.Test.YtfkmijdpcenieaaDoorSe
namespace Go.Proofs.YtfkmijdpcenieaaDoor
set_option linter.unusedVariables false
open Go.ChangeShapes Go.WideShapes Go.ChangeAt Go.RowKit

theorem parse_bits {s : ByteArray} (hs : s.size ≤ 1024) : ∀ x ∈ (parseR s).1, x.size ≤ 1024 := by
  rcases parse_err s with h | h
  · obtain ⟨e, he, h2⟩ := parse_code s (parseR s).1 (by rw [← h])
    rw [h2]; exact code_size 1024 (by decide) e he
  · rw [h]; simp
/-- What Parse and Eval answer, of a text that is read. -/
theorem read_both {on : List ByteArray} {s : ByteArray} {h : Nat} {x : Bool} (H : Rdy on s.data.toList h x) (hh : h ≤ 64) (hs : s.size ≤ 1024) :
    ∃ l, parseR s = (l, 0) ∧ evalR on l = (x, 0) ∧ l.length ≤ 4096 ∧ ∀ y ∈ l, y.size ≤ 1024 := by
  obtain ⟨l, h1, h2⟩ := reads_parse H hh hs
  refine ⟨l, h1, h2, ?_, ?_⟩
  · have := parse_len hs; rw [h1] at this; exact this
  · have := parse_bits hs; rw [h1] at this; exact this

set_option maxRecDepth 100000 in
set_option maxHeartbeats 2000000 in
theorem means_walk (v u : Value) (l on : List ByteArray) (w : World) (hv : Strs w v l) (hz : ∀ x ∈ l, x.size ≤ 140737488351232) (hl : l.length ≤ 9223372036854775807) (hu : Strs w u on) (hon : on.length ≤ 9223372036854775807) (hm : MaxAt w) :
    Calls Tryd.prog 5 #[v, u] w (LawEnd w) := by
  have HA := Lib.hid (alive_any w hm)
  have Hv := Lib.hid hv
  have Hu := Lib.hid hu
  have Hm := Lib.hid hm
  have HZ := Lib.hid hz
  obtain ⟨p, cap, rfl, hp⟩ := strs_shape hv
  obtain ⟨q, cq, rfl, _⟩ := strs_shape hu
  have Hp := Lib.hid hp
  obtain ⟨n, hn⟩ : ∃ n, n = l.length := ⟨_, rfl⟩
  rw [← hn] at Hp hl Hv ⊢
  have Hn := Lib.hid hn
  clear hv hz hm hp hn hu
  go_enter Tryd.func5, Tryd.ntmps5
  go_wp2_with fail
  refine HA.out.mono ?_
  rintro e w1 ⟨rfl, hB⟩
  go_wp2_with fail
  go_loopg [5, 7, 21] n (fun g av _ iv wr => ∃ (i a : Nat), i + g = n ∧ iv = .int .i64 i ∧ av = .int .i64 a ∧ a = sums (l.take i) ∧ a ≤ 200 ∧ (0 < i → n ≤ 20) ∧ wr = w1)
  case atStart => exact ⟨0, 0, by omega, rfl, rfl, rfl, by omega, (fun h => absurd h (by omega)), rfl⟩
  case round =>
    obtain ⟨i, a, hig, rfl, rfl, ha, ha2, h20, rfl⟩ := hrel
    by_cases hlt : i < n
    · have hltI : (i : Int) < (n : Int) := by omega
      obtain ⟨b, off, rfl, hb, hcap, hmax, hcell⟩ := Hp.out (by omega)
      have hkl : i < l.length := by have := Hn.out; omega
      have hc := (hB.cell (p := ⟨b, off + i, none⟩) hb).trans (hcell i hlt)
      have hbr : b < wr.heap.size := Nat.lt_of_lt_of_le hb hB.size
      have hxz := HZ.out _ (getD_mem hkl)
      have hts := sums_take1 l i hkl
      rw [← ha] at hts
      have Hts := Lib.hid hts
      obtain ⟨x, hx⟩ : ∃ x, x = l.getD i ByteArray.empty := ⟨_, rfl⟩
      rw [← hx] at hc hxz Hts
      unfold maxLen at hmax
      clear hx hts ha hcell
      by_cases h2 : 200 < a + x.size
      · have h2I : (200 : Int) < (a : Int) + (x.size : Int) := by omega
        go_wp2_with fail
        go_ret
        exact ⟨rfl, hB⟩
      · have h2I : ¬ (200 : Int) < (a : Int) + (x.size : Int) := by omega
        by_cases h3 : 20 < n
        · have h3I : (20 : Int) < (n : Int) := by omega
          go_wp2_with fail
          go_ret
          exact ⟨rfl, hB⟩
        · have h3I : ¬ (20 : Int) < (n : Int) := by omega
          go_wp2_with fail
          go_roundg (gk - 1)
          case measure => omega
          case rel => exact ⟨i + 1, a + x.size, by omega, by go_num, by go_num, Hts.out.symm, by omega, fun _ => by omega, rfl⟩
    · obtain rfl : i = n := by omega
      have hnI : ¬ (i : Int) < (i : Int) := by omega
      rw [show l.take i = l by rw [Hn.out, List.take_length]] at ha
      have hi20 : i ≤ 20 := by
        by_cases h0 : 0 < i
        · exact h20 h0
        · omega
      clear h20
      have hln : l.length ≤ 20 := by have := Hn.out; omega
      by_cases h60 : on.length ≤ 60
      · have h60I : ¬ (60 : Int) < (on.length : Int) := by omega
        have HM := Lib.hid (lines_any _ l wr (Hv.out.below hB) (by omega) (by omega) (Hm.out.below Hm.out.1 hB))
        cases hok : okLs l with
        | false =>
          rw [hok] at HM
          simp only [Bool.false_eq_true, reduceIte] at HM
          go_wp2_with fail
          refine HM.out.mono ?_
          rintro e w2 ⟨rfl, hB2⟩
          replace hB := hB.trans (hB2.mono hB.size)
          clear hB2
          go_wp2_with fail
          go_ret
          exact ⟨rfl, hB⟩
        | true =>
          have hvs := valLs_sharp hok
          have hzs : (valLs l).size ≤ 1024 := by omega
          obtain ⟨c, hc1, hc2, hc3, hc4⟩ := read_both (lines_reads on hok) (by decide) hzs
          rw [hok] at HM
          simp only [reduceIte] at HM
          have HPa := Lib.hid (fun w1 => parse_any (valLs l) w1 (by omega))
          unfold Parsed at HPa
          rw [hc1] at HPa
          simp only at HPa
          have HEv := Lib.hid (fun vv w1 (hvv : Strs w1 vv c) (huu : Strs w1 (.slice q on.length cq) on) => eval_any vv _ c on w1 hvv huu (by omega) (by omega) (fun y hy => by have := hc4 y hy; omega))
          rw [hc2] at HEv
          unfold Evald at HEv
          simp only at HEv
          have HH := Lib.hid (fun (x : ByteArray) (hx : x ∈ l) w1 (huu : Strs w1 (.slice q on.length cq) on) => holds_any _ x on w1 (by have := sums_mem l x hx; omega) huu)
          obtain ⟨Y, hY⟩ : ∃ Y, Y = valLs l := ⟨_, rfl⟩
          rw [← hY] at HM HPa
          obtain ⟨F, hF⟩ : ∃ F, F = l.all (lineV on) := ⟨_, rfl⟩
          rw [← hF] at HEv
          have HF := Lib.hid hF
          clear hc1 hc2 hc3 hc4 hzs hvs hok hY hF ha hln
          go_wp2_with fail
          refine HM.out.mono ?_
          rintro e w2 ⟨rfl, hB2⟩
          replace hB := hB.trans (hB2.mono hB.size)
          clear hB2 HM
          go_wp2_with fail
          go_loopg [10, 12, 49] i (fun g av _ iv wr => ∃ (j : Nat) (A : Bool), j + g = i ∧ iv = .int .i64 j ∧ av = .bool A ∧ A = (l.take j).all (lineV on) ∧ Below w.heap.size w wr)
          case atStart => exact ⟨0, true, by omega, rfl, rfl, rfl, hB⟩
          case round =>
            obtain ⟨j, A, hjg, rfl, rfl, hA, hBr⟩ := hrel
            by_cases hlj : j < i
            · have hljI : (j : Int) < (i : Int) := by omega
              obtain ⟨b, off, rfl, hb, hcap, hmax, hcell⟩ := Hp.out (by omega)
              have hkl : j < l.length := by have := Hn.out; omega
              have hc := (hBr.cell (p := ⟨b, off + j, none⟩) hb).trans (hcell j hlj)
              have hbr : b < wr.heap.size := Nat.lt_of_lt_of_le hb hBr.size
              have hat := alls_take (V := lineV on) hkl
              rw [← hA] at hat
              have Hat := Lib.hid hat
              have Hcall := Lib.hid (HH.out _ (getD_mem hkl) wr (Hu.out.below hBr))
              obtain ⟨x, hx⟩ : ∃ x, x = l.getD j ByteArray.empty := ⟨_, rfl⟩
              rw [← hx] at hc Hcall Hat
              unfold maxLen at hmax
              generalize lineV on x = hb2 at *
              clear hx hat hA hcell hB
              cases A
              · go_wp2_with fail
                go_roundg (gk - 1)
                case measure => omega
                case rel => exact ⟨j + 1, _, by omega, by go_num, rfl, by rw [Hat.out]; rfl, hBr⟩
              · go_wp2_with fail
                refine Hcall.out.mono ?_
                rintro e w3 ⟨rfl, hB3⟩
                replace hBr := hBr.trans (hB3.mono hBr.size)
                clear hB3
                go_wp2_with fail
                go_roundg (gk - 1)
                case measure => omega
                case rel => exact ⟨j + 1, _, by omega, by go_num, rfl, by rw [Hat.out]; rfl, hBr⟩
            · obtain rfl : j = i := by omega
              have hnI2 : ¬ (j : Int) < (j : Int) := by omega
              rw [show l.take j = l by rw [Hn.out, List.take_length], ← HF.out] at hA
              subst hA
              clear hB
              cases A
              all_goals
                go_wp2_with fail
                refine (HPa.out _).mono ?_
                rintro e w3 ⟨v3, rfl, hv3, hB3⟩
                replace hBr := hBr.trans (hB3.mono hBr.size)
                have Hv3 := Lib.hid hv3
                clear hB3 hv3
                go_wp2_with fail
                refine (HEv.out _ _ Hv3.out (Hu.out.below hBr)).mono ?_
                rintro e w4 ⟨rfl, hB4⟩
                replace hBr := hBr.trans (hB4.mono hBr.size)
                clear hB4
                go_wp2_with fail
                go_ret
                exact ⟨rfl, hBr⟩
      · have h60I : (60 : Int) < (on.length : Int) := by omega
        go_wp2_with fail
        go_ret
        exact ⟨rfl, hB⟩
end Go.Proofs.YtfkmijdpcenieaaDoor
