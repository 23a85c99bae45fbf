/- Walks: the statement GolexSemis. -/
import Derived.Test.YtejogobhnbjpdaaDoorLd
namespace Go.Proofs.YtejogobhnbjpdaaDoor
set_option linter.unusedVariables false
set_option linter.unusedSimpArgs false
open Go.ChangeShapes Go.WideShapes Go.ChangeAt Go.RowKit

theorem byt_is (s : ByteArray) (j : Nat) (h : j < s.size) : (s[j]'h).toNat = byt s j := by unfold byt; rw [get_is s j h]
theorem lexL_sem (s : ByteArray) : SemOk s (lexL s) := semis_ok s (skN s) [] [] (skN_le s) (fun i t h => by simp at h) (fun u h => by simp at h)
set_option maxRecDepth 100000 in
set_option maxHeartbeats 10000000 in
theorem semis_walk (s : ByteArray) (w : World) (hs0 : s.size ≤ 140737488351232) (hTab : Tabs w) : Calls Tryd.prog 7 #[.string s] w (LawEnd w) := by
  have HA := Lib.hid (alive_any w hTab)
  have HT := Lib.hid hTab
  clear hTab
  by_cases hbig : 2048 < s.size
  · have hbI : (2048 : Int) < (s.size : Int) := by omega
    go_enter Tryd.func7, Tryd.ntmps7
    go_wp2_with fail
    refine HA.out.mono ?_
    rintro r w1 ⟨rfl, hB⟩
    have HB := Lib.hid hB
    clear hB
    go_wp2_with fail
    go_ret
    exact ⟨rfl, HB.out⟩
  have hbI : ¬ (2048 : Int) < (s.size : Int) := by omega
  have HLX := Lib.hid (fun w1 (h1 : Below w.heap.size w w1) => lex_any s w1 (by omega) (tabs_below HT.out h1))
  have HTb := Lib.hid (lexL_tkb (s := s) (by omega))
  have HSM := Lib.hid (lexL_sem s)
  have hlen := (lexL_len s).1
  generalize lexL s = L at *
  go_enter Tryd.func7, Tryd.ntmps7
  go_wp2_with fail
  refine HA.out.mono ?_
  rintro r w1 ⟨rfl, hB⟩
  have HB1 := Lib.hid hB
  clear hB
  go_wp2_with fail
  refine (HLX.out _ HB1.out).mono ?_
  rintro r w2 ⟨v, rfl, hv, hB2⟩
  obtain ⟨pp, cap, rfl, hp⟩ := hv.shape
  have HV := Lib.hid hv
  have HB := Lib.hid (HB1.out.trans (hB2.mono HB1.out.size))
  have Hp := Lib.hid hp
  obtain ⟨len, hl⟩ : ∃ len, len = L.length := ⟨_, rfl⟩
  rw [← hl] at HV Hp hlen ⊢
  have Hl := Lib.hid hl
  clear hv hB2 hp hl
  go_wp2_with fail
  go_loopg [17] len (fun g iv wr => ∃ k : Nat, k + g = len ∧ iv = .int .i64 k ∧ Below w2.heap.size w2 wr)
  case atStart => exact ⟨0, by omega, rfl, Below.refl _ _⟩
  case round =>
    obtain ⟨i, hig, rfl, hBr⟩ := hrel
    by_cases hlt : i < len
    case neg =>
      have hnI : ¬ (i : Int) < (len : Int) := by omega
      go_wp2_with fail
      go_ret
      exact ⟨rfl, HB.out.trans (hBr.mono HB.out.size)⟩
    have hltI : (i : Int) < (len : Int) := by omega
    have hiL : i < L.length := by have := Hl.out; omega
    obtain ⟨g1, o1, rfl⟩ := Hp.out (by omega)
    obtain ⟨⟨k, x, p⟩, hx⟩ : ∃ t, L[i]? = some t := ⟨_, List.getElem?_eq_getElem hiL⟩
    obtain ⟨hg1, e0, e1, e2⟩ := HV.out.cells hx
    have f0 := (hBr.cell (p := ⟨g1, o1 + i * 3, none⟩) hg1).trans e0
    have f1 := (hBr.cell (p := ⟨g1, o1 + i * 3 + 1, none⟩) hg1).trans e1
    have f2 := (hBr.cell (p := ⟨g1, o1 + i * 3 + 2, none⟩) hg1).trans e2
    have hxe := isEmpty_eq x
    have hsem := HSM.out i (k, x, p) hx
    have hps : p ≤ s.size := hsem.2.2.2
    have hwa := (Below.refl wr.heap.size wr).alloc (Nat.le_refl _) (.cells #[.int .i64 k, .string x, .int .i64 p] 31)
    have hnew := heap_alloc_new wr (.cells #[.int .i64 k, .string x, .int .i64 p] 31)
    have Hnew := Lib.hid hnew
    have Hlt := Lib.hid (lt_of_block hnew)
    have Hwa := Lib.hid (hBr.trans (hwa.mono hBr.size))
    have Hwa1 := Lib.hid hwa
    have HBr := Lib.hid hBr
    have Hg1 := Lib.hid hg1
    have Hsem := Lib.hid hsem
    clear e0 e1 e2 hwa hnew hx hBr hg1 hsem
    by_cases hi0 : i = 0
    case pos =>
      have hnm : ¬ (k = 6 ∧ x.size = 0) := fun h => by
        obtain ⟨u, hu, _⟩ := Hsem.out.1 h.1 h.2
        rw [if_pos hi0] at hu
        cases hu
      have hz1 : ((i : Int) == 0) = true := beq_iff_eq.2 (by omega)
      have hz2 : ¬ (0 : Int) < (i : Int) := by omega
      clear hi0
      rcases (by omega : k = 6 ∨ k = 0 ∨ k = 7 ∨ (k ≠ 6 ∧ k ≠ 0 ∧ k ≠ 7)) with hk | hk | hk | hk
      · have hx0 : ¬ x.size = 0 := fun h => hnm ⟨hk, h⟩
        rw [decide_eq_false hx0] at hxe
        clear hx0
        have u6 : ((k : Int) == 6) = true := beq_iff_eq.2 (by omega)
        have u0 : ((k : Int) == 0) = false := beq_eq_false_iff_ne.2 (by omega)
        have u7 : ((k : Int) == 7) = false := beq_eq_false_iff_ne.2 (by omega)
        have u7n : ((k : Int) != 7) = true := by rw [bne, u7]; rfl
        clear hnm hk
        go_wp2_with fail
        go_roundg (gk - 1)
        case measure => omega
        case rel => exact ⟨i + 1, by omega, by go_num, Hwa.out⟩
      · have u6 : ((k : Int) == 6) = false := beq_eq_false_iff_ne.2 (by omega)
        have u0 : ((k : Int) == 0) = true := beq_iff_eq.2 (by omega)
        have u7 : ((k : Int) == 7) = false := beq_eq_false_iff_ne.2 (by omega)
        have u7n : ((k : Int) != 7) = true := by rw [bne, u7]; rfl
        clear hnm hxe hk
        go_wp2_with fail
        go_roundg (gk - 1)
        case measure => omega
        case rel => exact ⟨i + 1, by omega, by go_num, Hwa.out⟩
      · have u6 : ((k : Int) == 6) = false := beq_eq_false_iff_ne.2 (by omega)
        have u0 : ((k : Int) == 0) = false := beq_eq_false_iff_ne.2 (by omega)
        have u7 : ((k : Int) == 7) = true := beq_iff_eq.2 (by omega)
        have u7n : ((k : Int) != 7) = false := by rw [bne, u7]; rfl
        clear hnm hxe hk
        go_wp2_with fail
        go_roundg (gk - 1)
        case measure => omega
        case rel => exact ⟨i + 1, by omega, by go_num, Hwa.out⟩
      · have u6 : ((k : Int) == 6) = false := beq_eq_false_iff_ne.2 (by omega)
        have u0 : ((k : Int) == 0) = false := beq_eq_false_iff_ne.2 (by omega)
        have u7 : ((k : Int) == 7) = false := beq_eq_false_iff_ne.2 (by omega)
        have u7n : ((k : Int) != 7) = true := by rw [bne, u7]; rfl
        clear hnm hxe hk
        go_wp2_with fail
        go_roundg (gk - 1)
        case measure => omega
        case rel => exact ⟨i + 1, by omega, by go_num, Hwa.out⟩
    obtain ⟨m, hm⟩ : ∃ m : Nat, i = m + 1 := ⟨i - 1, by omega⟩
    obtain ⟨⟨ku, xu, pu⟩, hu⟩ : ∃ t, L[m]? = some t := ⟨_, List.getElem?_eq_getElem (by have := Hl.out; omega)⟩
    have hpr : (if i = 0 then none else L[i - 1]?) = some (ku, xu, pu) := by rw [if_neg hi0, hm]; exact hu
    have hS : SemAt s (k, x, p) (some (ku, xu, pu)) := by have h := Hsem.out; rw [hpr] at h; exact h
    obtain ⟨hgu, q0, q1, q2⟩ := HV.out.cells hu
    have HQ1 := Lib.hid q1
    have HQ2 := Lib.hid q2
    have HQ0 := Lib.hid q0
    have hub := HTb.out _ (List.mem_of_getElem? hu)
    have hub1 : xu.size ≤ 4194304 := hub.2.1
    have hub2 : pu ≤ 4194304 := hub.2.2
    have HF := Lib.hid (fun w1 => feeds_any ku pu xu w1)
    have hmI : (i : Int) - 1 = (m : Int) := by omega
    have hmb : m ≤ 4096 := by omega
    have hml : m < len := by omega
    have hz1 : ((i : Int) == 0) = false := beq_eq_false_iff_ne.2 (by omega)
    have hz2 : (0 : Int) < (i : Int) := by omega
    have d0 := (Hwa.out.cell (p := ⟨g1, o1 + m * 3, none⟩) Hg1.out).trans q0
    have d1 := (Hwa.out.cell (p := ⟨g1, o1 + m * 3 + 1, none⟩) Hg1.out).trans q1
    have d2 := (Hwa.out.cell (p := ⟨g1, o1 + m * 3 + 2, none⟩) Hg1.out).trans q2
    have HS := Lib.hid hS
    have Hm := Lib.hid hm
    clear hu hpr hS q0 q1 q2 hub hiL hi0 hm
    obtain ⟨f, hf⟩ : ∃ f, f = endsB (ku, xu, pu) := ⟨_, rfl⟩
    rw [← hf] at HF
    have Hf := Lib.hid hf
    clear hf
    rcases (by omega : k = 6 ∨ k = 0 ∨ k = 7 ∨ (k ≠ 6 ∧ k ≠ 0 ∧ k ≠ 7)) with hk | hk | hk | hk
    · have u6 : ((k : Int) == 6) = true := beq_iff_eq.2 (by omega)
      have u0 : ((k : Int) == 0) = false := beq_eq_false_iff_ne.2 (by omega)
      have u7 : ((k : Int) == 7) = false := beq_eq_false_iff_ne.2 (by omega)
      have u7n : ((k : Int) != 7) = true := by rw [bne, u7]; rfl
      by_cases hx0 : x.size = 0
      · rw [decide_eq_true hx0] at hxe
        obtain ⟨u, hu1, hu2, hu3⟩ := HS.out.1 hk hx0
        injection hu1 with hu1
        subst hu1
        have hft : f = true := Hf.out.trans hu2
        clear hu2
        subst hft
        by_cases hp1 : s.size ≤ p
        · have hpI : ¬ (p : Int) < (s.size : Int) := by omega
          clear hu3 hx0 hk
          go_wp2_with fail
          refine (HF.out _).mono ?_
          rintro r w4 ⟨rfl, hB4⟩
          have b0 : w4.cell? ⟨wr.heap.size, 0, none⟩ = some (.int .i64 k) := (hB4.cell (p := ⟨wr.heap.size, 0, none⟩) Hlt.out).trans (block_cell Hnew.out 0)
          have b1 : w4.cell? ⟨wr.heap.size, 1, none⟩ = some (.string x) := (hB4.cell (p := ⟨wr.heap.size, 1, none⟩) Hlt.out).trans (block_cell Hnew.out 1)
          have b2 : w4.cell? ⟨wr.heap.size, 2, none⟩ = some (.int .i64 p) := (hB4.cell (p := ⟨wr.heap.size, 2, none⟩) Hlt.out).trans (block_cell Hnew.out 2)
          have HBw := Lib.hid (Hwa.out.trans (hB4.mono Hwa.out.size))
          clear hB4 d0 d1 d2 f0 f1 f2
          go_wp2_with fail
          go_roundg (gk - 1)
          case measure => omega
          case rel => exact ⟨i + 1, by omega, by go_num, HBw.out⟩
        · have hpl : p < s.size := by omega
          have hpI : (p : Int) < (s.size : Int) := by omega
          have hby := byt_is s p hpl
          rcases hu3 with hu3 | hu3 | hu3
          · exact absurd hu3 hp1
          · have e10 : (((s[p]'hpl).toNat : Int) == 10) = true := beq_iff_eq.2 (by rw [hby]; have h : byt s p = 10 := hu3; omega)
            have e10n : (((s[p]'hpl).toNat : Int) != 10) = false := by rw [bne, e10]; rfl
            clear hu3 hx0 hp1 hby hk
            go_wp2_with fail
            refine (HF.out _).mono ?_
            rintro r w4 ⟨rfl, hB4⟩
            have b0 : w4.cell? ⟨wr.heap.size, 0, none⟩ = some (.int .i64 k) := (hB4.cell (p := ⟨wr.heap.size, 0, none⟩) Hlt.out).trans (block_cell Hnew.out 0)
            have b1 : w4.cell? ⟨wr.heap.size, 1, none⟩ = some (.string x) := (hB4.cell (p := ⟨wr.heap.size, 1, none⟩) Hlt.out).trans (block_cell Hnew.out 1)
            have b2 : w4.cell? ⟨wr.heap.size, 2, none⟩ = some (.int .i64 p) := (hB4.cell (p := ⟨wr.heap.size, 2, none⟩) Hlt.out).trans (block_cell Hnew.out 2)
            have HBw := Lib.hid (Hwa.out.trans (hB4.mono Hwa.out.size))
            clear hB4 d0 d1 d2 f0 f1 f2
            go_wp2_with fail
            go_roundg (gk - 1)
            case measure => omega
            case rel => exact ⟨i + 1, by omega, by go_num, HBw.out⟩
          · have e10 : (((s[p]'hpl).toNat : Int) == 10) = false := beq_eq_false_iff_ne.2 (by rw [hby]; have h : byt s p = 47 := hu3; omega)
            have e10n : (((s[p]'hpl).toNat : Int) != 10) = true := by rw [bne, e10]; rfl
            have e47 : (((s[p]'hpl).toNat : Int) == 47) = true := beq_iff_eq.2 (by rw [hby]; have h : byt s p = 47 := hu3; omega)
            have e47n : (((s[p]'hpl).toNat : Int) != 47) = false := by rw [bne, e47]; rfl
            clear hu3 hx0 hp1 hby hk
            go_wp2_with fail
            refine (HF.out _).mono ?_
            rintro r w4 ⟨rfl, hB4⟩
            have b0 : w4.cell? ⟨wr.heap.size, 0, none⟩ = some (.int .i64 k) := (hB4.cell (p := ⟨wr.heap.size, 0, none⟩) Hlt.out).trans (block_cell Hnew.out 0)
            have b1 : w4.cell? ⟨wr.heap.size, 1, none⟩ = some (.string x) := (hB4.cell (p := ⟨wr.heap.size, 1, none⟩) Hlt.out).trans (block_cell Hnew.out 1)
            have b2 : w4.cell? ⟨wr.heap.size, 2, none⟩ = some (.int .i64 p) := (hB4.cell (p := ⟨wr.heap.size, 2, none⟩) Hlt.out).trans (block_cell Hnew.out 2)
            have HBw := Lib.hid (Hwa.out.trans (hB4.mono Hwa.out.size))
            clear hB4 d0 d1 d2 f0 f1 f2
            go_wp2_with fail
            go_roundg (gk - 1)
            case measure => omega
            case rel => exact ⟨i + 1, by omega, by go_num, HBw.out⟩
      · rw [decide_eq_false hx0] at hxe
        have hNM := Lib.hid (show ¬ (k = 6 ∧ x.size = 0) from fun h => hx0 h.2)
        have hN7 := Lib.hid (show k ≠ 7 by omega)
        clear hx0 hk
        cases f with
        | false =>
          go_wp2_with fail
          refine (HF.out _).mono ?_
          rintro r w4 ⟨rfl, hB4⟩
          have HBw := Lib.hid (Hwa.out.trans (hB4.mono Hwa.out.size))
          clear hB4 d0 d1 d2 f0 f1 f2
          go_wp2_with fail
          go_roundg (gk - 1)
          case measure => omega
          case rel => exact ⟨i + 1, by omega, by go_num, HBw.out⟩
        | true =>
          go_wp2_with fail
          refine (HF.out _).mono ?_
          rintro r w4 ⟨rfl, hB4⟩
          have b0 : w4.cell? ⟨wr.heap.size, 0, none⟩ = some (.int .i64 k) := (hB4.cell (p := ⟨wr.heap.size, 0, none⟩) Hlt.out).trans (block_cell Hnew.out 0)
          have b1 : w4.cell? ⟨wr.heap.size, 1, none⟩ = some (.string x) := (hB4.cell (p := ⟨wr.heap.size, 1, none⟩) Hlt.out).trans (block_cell Hnew.out 1)
          have b2 : w4.cell? ⟨wr.heap.size, 2, none⟩ = some (.int .i64 p) := (hB4.cell (p := ⟨wr.heap.size, 2, none⟩) Hlt.out).trans (block_cell Hnew.out 2)
          have HBw := Lib.hid (Hwa.out.trans (hB4.mono Hwa.out.size))
          have HBc := Lib.hid (hB4.mono Hwa1.out.size)
          have r1 := ((Hwa.out.trans (hB4.mono Hwa.out.size)).cell (p := ⟨g1, o1 + m * 3 + 1, none⟩) Hg1.out).trans HQ1.out
          have r2 := ((Hwa.out.trans (hB4.mono Hwa.out.size)).cell (p := ⟨g1, o1 + m * 3 + 2, none⟩) Hg1.out).trans HQ2.out
          clear hB4 d0 d1 d2 f0 f1 f2
          go_wp2_with fail
          go_quiet (fail)
          have HBw := Lib.hid (below_drewN HBw.out nq)
          have b2' : (w4.drewN nq).cell? ⟨wr.heap.size, 2, none⟩ = some (.int .i64 p) := b2
          clear b0 b1 b2 r1 r2
          generalize w4.drewN nq = w5 at *
          go_wp2_with fail
          obtain ⟨gko, rfl⟩ : ∃ gko : Nat, gko = gk := ⟨_, rfl⟩
          have H3 := Lib.hid (HS.out.2.2.1 hNM.out hN7.out (ku, xu, pu) rfl Hf.out.symm)
          go_loopg [7] p (fun g jv wq => ∃ j : Nat, pu + xu.size ≤ j ∧ j + g = p + (pu + xu.size) ∧ jv = .int .i64 j ∧ wq = w5)
          case atStart => exact ⟨pu + xu.size, Nat.le_refl _, by omega, by go_num, rfl⟩
          case round =>
            obtain ⟨j, hj0, hjg, rfl, rfl⟩ := hrel
            by_cases hjp : j < p
            · have hjI : (j : Int) < (p : Int) := by omega
              have hjs : j < s.size := by omega
              have hjsI : (j : Int) < (s.size : Int) := by omega
              have e10 : (((s[j]'hjs).toNat : Int) == 10) = false := beq_eq_false_iff_ne.2 (by rw [byt_is s j hjs]; have h : byt s j ≠ 10 := H3.out j hj0 hjp; omega)
              go_wp2_with fail
              go_roundg (gk - 1)
              case measure => omega
              case rel => exact ⟨j + 1, by omega, by omega, by go_num, rfl⟩
            · have hjI : ¬ (j : Int) < (p : Int) := by omega
              go_wp2_with fail
              go_roundg (gko - 1)
              case measure => omega
              case rel => exact ⟨i + 1, by omega, by go_num, HBw.out⟩
    · have u6 : ((k : Int) == 6) = false := beq_eq_false_iff_ne.2 (by omega)
      have u0 : ((k : Int) == 0) = true := beq_iff_eq.2 (by omega)
      have u7 : ((k : Int) == 7) = false := beq_eq_false_iff_ne.2 (by omega)
      have u7n : ((k : Int) != 7) = true := by rw [bne, u7]; rfl
      have hff : f = false := Hf.out.trans (HS.out.2.1 hk _ rfl)
      subst hff
      clear hxe hk
      go_wp2_with fail
      refine (HF.out _).mono ?_
      rintro r w4 ⟨rfl, hB4⟩
      have b0 : w4.cell? ⟨wr.heap.size, 0, none⟩ = some (.int .i64 k) := (hB4.cell (p := ⟨wr.heap.size, 0, none⟩) Hlt.out).trans (block_cell Hnew.out 0)
      have b1 : w4.cell? ⟨wr.heap.size, 1, none⟩ = some (.string x) := (hB4.cell (p := ⟨wr.heap.size, 1, none⟩) Hlt.out).trans (block_cell Hnew.out 1)
      have b2 : w4.cell? ⟨wr.heap.size, 2, none⟩ = some (.int .i64 p) := (hB4.cell (p := ⟨wr.heap.size, 2, none⟩) Hlt.out).trans (block_cell Hnew.out 2)
      have HBw := Lib.hid (Hwa.out.trans (hB4.mono Hwa.out.size))
      have r0 := ((Hwa.out.trans (hB4.mono Hwa.out.size)).cell (p := ⟨g1, o1 + m * 3, none⟩) Hg1.out).trans HQ0.out
      have r1 := ((Hwa.out.trans (hB4.mono Hwa.out.size)).cell (p := ⟨g1, o1 + m * 3 + 1, none⟩) Hg1.out).trans HQ1.out
      have r2 := ((Hwa.out.trans (hB4.mono Hwa.out.size)).cell (p := ⟨g1, o1 + m * 3 + 2, none⟩) Hg1.out).trans HQ2.out
      clear hB4 d0 d1 d2 f0 f1 f2
      go_wp2_with fail
      refine (HF.out _).mono ?_
      rintro r w5 ⟨rfl, hB5⟩
      have HBw2 := Lib.hid (HBw.out.trans (hB5.mono HBw.out.size))
      clear hB5 r0 r1 r2
      go_wp2_with fail
      go_roundg (gk - 1)
      case measure => omega
      case rel => exact ⟨i + 1, by omega, by go_num, HBw2.out⟩
    · have u6 : ((k : Int) == 6) = false := beq_eq_false_iff_ne.2 (by omega)
      have u0 : ((k : Int) == 0) = false := beq_eq_false_iff_ne.2 (by omega)
      have u7 : ((k : Int) == 7) = true := beq_iff_eq.2 (by omega)
      have u7n : ((k : Int) != 7) = false := by rw [bne, u7]; rfl
      clear hxe hk
      go_wp2_with fail
      go_roundg (gk - 1)
      case measure => omega
      case rel => exact ⟨i + 1, by omega, by go_num, Hwa.out⟩
    · have hNM := Lib.hid (show ¬ (k = 6 ∧ x.size = 0) from fun h => hk.1 h.1)
      have hN7 := Lib.hid (show k ≠ 7 from hk.2.2)
      have u6 : ((k : Int) == 6) = false := beq_eq_false_iff_ne.2 (by omega)
      have u0 : ((k : Int) == 0) = false := beq_eq_false_iff_ne.2 (by omega)
      have u7 : ((k : Int) == 7) = false := beq_eq_false_iff_ne.2 (by omega)
      have u7n : ((k : Int) != 7) = true := by rw [bne, u7]; rfl
      clear hxe hk
      cases f with
      | false =>
        go_wp2_with fail
        refine (HF.out _).mono ?_
        rintro r w4 ⟨rfl, hB4⟩
        have HBw := Lib.hid (Hwa.out.trans (hB4.mono Hwa.out.size))
        clear hB4 d0 d1 d2 f0 f1 f2
        go_wp2_with fail
        go_roundg (gk - 1)
        case measure => omega
        case rel => exact ⟨i + 1, by omega, by go_num, HBw.out⟩
      | true =>
        go_wp2_with fail
        refine (HF.out _).mono ?_
        rintro r w4 ⟨rfl, hB4⟩
        have b0 : w4.cell? ⟨wr.heap.size, 0, none⟩ = some (.int .i64 k) := (hB4.cell (p := ⟨wr.heap.size, 0, none⟩) Hlt.out).trans (block_cell Hnew.out 0)
        have b1 : w4.cell? ⟨wr.heap.size, 1, none⟩ = some (.string x) := (hB4.cell (p := ⟨wr.heap.size, 1, none⟩) Hlt.out).trans (block_cell Hnew.out 1)
        have b2 : w4.cell? ⟨wr.heap.size, 2, none⟩ = some (.int .i64 p) := (hB4.cell (p := ⟨wr.heap.size, 2, none⟩) Hlt.out).trans (block_cell Hnew.out 2)
        have HBw := Lib.hid (Hwa.out.trans (hB4.mono Hwa.out.size))
        have HBc := Lib.hid (hB4.mono Hwa1.out.size)
        have r1 := ((Hwa.out.trans (hB4.mono Hwa.out.size)).cell (p := ⟨g1, o1 + m * 3 + 1, none⟩) Hg1.out).trans HQ1.out
        have r2 := ((Hwa.out.trans (hB4.mono Hwa.out.size)).cell (p := ⟨g1, o1 + m * 3 + 2, none⟩) Hg1.out).trans HQ2.out
        clear hB4 d0 d1 d2 f0 f1 f2
        go_wp2_with fail
        go_quiet (fail)
        have HBw := Lib.hid (below_drewN HBw.out nq)
        have b2' : (w4.drewN nq).cell? ⟨wr.heap.size, 2, none⟩ = some (.int .i64 p) := b2
        clear b0 b1 b2 r1 r2
        generalize w4.drewN nq = w5 at *
        go_wp2_with fail
        obtain ⟨gko, rfl⟩ : ∃ gko : Nat, gko = gk := ⟨_, rfl⟩
        have H3 := Lib.hid (HS.out.2.2.1 hNM.out hN7.out (ku, xu, pu) rfl Hf.out.symm)
        go_loopg [7] p (fun g jv wq => ∃ j : Nat, pu + xu.size ≤ j ∧ j + g = p + (pu + xu.size) ∧ jv = .int .i64 j ∧ wq = w5)
        case atStart => exact ⟨pu + xu.size, Nat.le_refl _, by omega, by go_num, rfl⟩
        case round =>
          obtain ⟨j, hj0, hjg, rfl, rfl⟩ := hrel
          by_cases hjp : j < p
          · have hjI : (j : Int) < (p : Int) := by omega
            have hjs : j < s.size := by omega
            have hjsI : (j : Int) < (s.size : Int) := by omega
            have e10 : (((s[j]'hjs).toNat : Int) == 10) = false := beq_eq_false_iff_ne.2 (by rw [byt_is s j hjs]; have h : byt s j ≠ 10 := H3.out j hj0 hjp; omega)
            go_wp2_with fail
            go_roundg (gk - 1)
            case measure => omega
            case rel => exact ⟨j + 1, by omega, by omega, by go_num, rfl⟩
          · have hjI : ¬ (j : Int) < (p : Int) := by omega
            go_wp2_with fail
            go_roundg (gko - 1)
            case measure => omega
            case rel => exact ⟨i + 1, by omega, by go_num, HBw.out⟩
end Go.Proofs.YtejogobhnbjpdaaDoor
