/- Walks: texts between quotes, numbers, read by the code. -/
import Derived.Test.YtejogobhnbjpdaaDoorKx
import Derived.Test.YtejogobhnbjpdaaDoorGv
namespace Go.Proofs.YtejogobhnbjpdaaDoor
set_option linter.unusedVariables false
set_option linter.unusedSimpArgs false
open Go.ChangeShapes Go.WideShapes Go.ChangeAt Go.RowKit

theorem ix_byt (s : ByteArray) (q : Nat) (h : q < s.size) : (s.get! q).toNat = byt s q := rfl
theorem ext2 (s : ByteArray) (q : Nat) (h : q + 2 ≤ s.size) : (s.extract q (q + 2)).data.toList = [s.get! q, s.get! (q + 1)] := by
  apply List.ext_getElem?
  intro i
  rw [ext_get s q 2 i h]
  by_cases hi : i < 2
  · rcases (by omega : i = 0 ∨ i = 1) with rfl | rfl
    · rw [if_pos hi]; rfl
    · rw [if_pos hi]; rfl
  · rw [if_neg hi, List.getElem?_eq_none (by simp only [List.length_cons, List.length_nil]; omega)]
theorem beq_lst (x : ByteArray) (l : List UInt8) : (x.toList == l) = decide (x.data.toList = l) := by
  rw [Lib.toList_data]
  by_cases h : x.data.toList = l
  · rw [h]; simp
  · rw [decide_eq_false h]; simpa using h
theorem hex_first (s : ByteArray) (q : Nat) (h : q < s.size) (F : ByteArray) (hF : F = s.extract q (if q + 2 ≤ s.size then q + 2 else s.size)) : hexP s q = ((F.toList == ([48, 120] : List UInt8)) || (F.toList == ([48, 88] : List UInt8))) := by
  rw [beq_lst, beq_lst]
  by_cases h2 : q + 2 ≤ s.size
  · rw [if_pos h2] at hF
    rw [hF, ext2 s q h2, Bool.eq_iff_iff]
    unfold hexP byt
    simp only [Bool.and_eq_true, Bool.or_eq_true, decide_eq_true_eq, List.cons.injEq, and_true]
    constructor
    · rintro ⟨_, h3, h4 | h4⟩
      · left; exact ⟨UInt8.toNat_inj.1 h3, UInt8.toNat_inj.1 h4⟩
      · right; exact ⟨UInt8.toNat_inj.1 h3, UInt8.toNat_inj.1 h4⟩
    · rintro (⟨h3, h4⟩ | ⟨h3, h4⟩)
      · rw [h3, h4]; exact ⟨h2, rfl, .inl rfl⟩
      · rw [h3, h4]; exact ⟨h2, rfl, .inr rfl⟩
  · rw [if_neg h2] at hF
    have hl : F.data.toList.length = 1 := by
      rw [hF, ← Lib.size_eq, ByteArray.size_extract]; omega
    have e1 : decide (F.data.toList = [48, 120]) = false := decide_eq_false (fun h => by rw [h] at hl; cases hl)
    have e2 : decide (F.data.toList = [48, 88]) = false := decide_eq_false (fun h => by rw [h] at hl; cases hl)
    rw [e1, e2]
    unfold hexP
    rw [decide_eq_false h2]; rfl

set_option maxRecDepth 100000 in
set_option maxHeartbeats 2000000 in
theorem number_any (b : Nat) (s : ByteArray) (at_ : Nat) (w : World) (h : Tx b s at_ w) (hs : s.size ≤ 1048576) (ha : at_ < s.size) :
    Calls Tryd.prog 71 #[.pointer (some ⟨b, 0, none⟩)] w fun e w' => e = .returned (.int .i64 (numE s (hexP s at_) (at_ + 1) : Nat)) ∧ Below w.heap.size w w' := by
  have c0 := h.c0
  have c1 := h.c1
  have HX := Lib.hid h
  clear h
  obtain ⟨F, hF⟩ : ∃ F, F = s.extract at_ (if at_ + 2 ≤ s.size then at_ + 2 else s.size) := ⟨_, rfl⟩
  have HH := Lib.hid (hex_first s at_ ha F hF)
  obtain ⟨b0, hb0⟩ : ∃ b, (F.toList == ([48, 120] : List UInt8)) = b := ⟨_, rfl⟩
  obtain ⟨b1, hb1⟩ : ∃ b, (F.toList == ([48, 88] : List UInt8)) = b := ⟨_, rfl⟩
  generalize hexP s at_ = hx0 at *
  go_enter Tryd.func71, Tryd.ntmps71
  by_cases h2 : at_ + 2 ≤ s.size
  · rw [if_pos h2] at hF
    have hmin : min ((at_ : Int) + 2) (s.size : Int) = (at_ : Int) + 2 := by omega
    have h2I : (at_ : Int) + 2 ≤ (s.size : Int) := by omega
    cases b0 with
    | true =>
      have hhx : hx0 = true := by rw [HH.out, hb0, hb1]; rfl
      subst hhx
      clear HH
      go_wp2_with fail
      go_quiet (fail)
      rw [show s.extract at_ (at_ + 2) = F from hF.symm]
      clear hF
      go_wp2_with fail
      go_loopg [5] (s.size - (at_ + 1)) (fun g iv wr => ∃ q : Nat, q + g = s.size ∧ at_ < q ∧ iv = .int .i64 q ∧ numE s true (at_ + 1) = numE s true q ∧ Below w.heap.size w wr)
      case atStart => exact ⟨at_ + 1, by omega, by omega, by go_num, rfl, below_drewN (Below.refl _ _) _⟩
      case round =>
        obtain ⟨q, hqg, hgt, rfl, hE, hBr⟩ := hrel
        have hX := HX.out.below hBr
        have HL0 := Lib.hid (fun w1 (h1 : Below wr.heap.size wr w1) => (by have h := (hX.below h1).c0; simp [go_sem, h] : (loadVar 9 ⟨b, 0, none⟩).run Tryd.prog w1 = .ok (.string s) w1))
        have HBr := Lib.hid hBr
        have Hat := Lib.hid hE
        clear hX hBr hE
        by_cases hq : q < s.size
        · have hqI : (q : Int) < (s.size : Int) := by omega
          have hq1 : (0 : Int) ≤ (q : Int) - 1 := by omega
          have HC := Lib.hid (fun w1 (h1 : Below wr.heap.size wr w1) => (inNumber_any (byt s (q - 1)) (byt s q) true w1 (byt_lt s q)).mono (fun e w2 hh => (⟨hh.1, h1.trans (hh.2.mono h1.size)⟩ : e = .returned (.bool (inNum (byt s (q - 1)) (byt s q) true)) ∧ Below wr.heap.size wr w2)))
          have HE := Lib.hid (show numE s true q = if inNum (byt s (q - 1)) (byt s q) true = true then numE s true (q + 1) else q by rw [numE, if_pos hq])
          obtain ⟨p0, hp0⟩ : ∃ p, byt s (q - 1) = p := ⟨_, rfl⟩
          obtain ⟨p1, hp1⟩ : ∃ p, byt s q = p := ⟨_, rfl⟩
          rw [hp0, hp1] at HC HE
          have HB0 := Lib.hid hp0
          have HB1 := Lib.hid hp1
          clear hp0 hp1
          cases hin : inNum p0 p1 true with
          | true =>
            have HE2 := Lib.hid (show numE s true q = numE s true (q + 1) by rw [HE.out, if_pos hin])
            rw [hin] at HC
            clear hin
            go_wp2_with fail
            refine wp_region_class (Below wr.heap.size wr) (by kernel_rfl) (by kernel_rfl) (Below.refl _ _).drew ?_
            repeat (go_big_quiet_step (first | (intro hh; with_reducible exact HC.out _ hh) | (intro _; rfl)))
            refine wpQuiet_load_at rfl 9 (.tmp 40) rfl ⟨b, 0, none⟩ rfl (.string s) HL0.out ?_
            simp only [Act.put, List.setIfInBounds_toArray, List.set_cons_succ, List.set_cons_zero]
            repeat (go_big_quiet_step (first | (intro hh; with_reducible exact HC.out _ hh) | (intro _; rfl)))
            refine wpQuiet_load_at (by simp [Region.wanted, yielded, Act.put]) 9 (.tmp 47) rfl ⟨b, 0, none⟩ rfl (.string s) HL0.out ?_
            simp only [Act.put, List.setIfInBounds_toArray, List.set_cons_succ, List.set_cons_zero]
            repeat (go_big_quiet_step (first | (intro hh; with_reducible exact HC.out _ hh) | (intro _; rfl)))
            refine wpQuiet_index_at (by simp [Region.wanted, yielded, Act.put]) (.tmp 48) (.tmp 50) rfl s (q - 1) ((q : Int) - 1) rfl rfl (by omega) (by omega) ?_
            rw [HB0.out]
            simp only [Act.put, List.setIfInBounds_toArray, List.set_cons_succ, List.set_cons_zero]
            repeat (go_big_quiet_step (first | (intro hh; with_reducible exact HC.out _ hh) | (intro _; rfl)))
            refine wpQuiet_load_at (by simp [Region.wanted, yielded, Act.put]) 9 (.tmp 54) rfl ⟨b, 0, none⟩ rfl (.string s) HL0.out ?_
            simp only [Act.put, List.setIfInBounds_toArray, List.set_cons_succ, List.set_cons_zero]
            go_big_quiet_step (first | (intro _; rfl))
            refine wpQuiet_index_at (by simp [Region.wanted, yielded, Act.put]) (.tmp 55) (.tmp 56) rfl s (q) ((q : Int)) rfl rfl rfl (by omega) ?_
            rw [HB1.out]
            simp only [Act.put, List.setIfInBounds_toArray, List.set_cons_succ, List.set_cons_zero]
            repeat (go_big_quiet_step (first | (intro hh; with_reducible exact HC.out _ hh) | (intro _; rfl)))
            refine wpQuiet_nil ?_
            intro wq hBq
            have HB := Lib.hid (HBr.out.trans (hBq.mono HBr.out.size))
            clear hBq
            go_wp2_with fail
            go_roundg (gk - 1)
            case measure => omega
            case rel => exact ⟨q + 1, by omega, by omega, by go_num, by rw [Hat.out, HE2.out], HB.out⟩
          | false =>
            have HE2 := Lib.hid (show numE s true q = q by rw [HE.out, if_neg (by rw [hin]; decide)])
            rw [hin] at HC
            clear hin
            go_wp2_with fail
            refine wp_region_class (Below wr.heap.size wr) (by kernel_rfl) (by kernel_rfl) (Below.refl _ _).drew ?_
            repeat (go_big_quiet_step (first | (intro hh; with_reducible exact HC.out _ hh) | (intro _; rfl)))
            refine wpQuiet_load_at rfl 9 (.tmp 40) rfl ⟨b, 0, none⟩ rfl (.string s) HL0.out ?_
            simp only [Act.put, List.setIfInBounds_toArray, List.set_cons_succ, List.set_cons_zero]
            repeat (go_big_quiet_step (first | (intro hh; with_reducible exact HC.out _ hh) | (intro _; rfl)))
            refine wpQuiet_load_at (by simp [Region.wanted, yielded, Act.put]) 9 (.tmp 47) rfl ⟨b, 0, none⟩ rfl (.string s) HL0.out ?_
            simp only [Act.put, List.setIfInBounds_toArray, List.set_cons_succ, List.set_cons_zero]
            repeat (go_big_quiet_step (first | (intro hh; with_reducible exact HC.out _ hh) | (intro _; rfl)))
            refine wpQuiet_index_at (by simp [Region.wanted, yielded, Act.put]) (.tmp 48) (.tmp 50) rfl s (q - 1) ((q : Int) - 1) rfl rfl (by omega) (by omega) ?_
            rw [HB0.out]
            simp only [Act.put, List.setIfInBounds_toArray, List.set_cons_succ, List.set_cons_zero]
            repeat (go_big_quiet_step (first | (intro hh; with_reducible exact HC.out _ hh) | (intro _; rfl)))
            refine wpQuiet_load_at (by simp [Region.wanted, yielded, Act.put]) 9 (.tmp 54) rfl ⟨b, 0, none⟩ rfl (.string s) HL0.out ?_
            simp only [Act.put, List.setIfInBounds_toArray, List.set_cons_succ, List.set_cons_zero]
            go_big_quiet_step (first | (intro _; rfl))
            refine wpQuiet_index_at (by simp [Region.wanted, yielded, Act.put]) (.tmp 55) (.tmp 56) rfl s (q) ((q : Int)) rfl rfl rfl (by omega) ?_
            rw [HB1.out]
            simp only [Act.put, List.setIfInBounds_toArray, List.set_cons_succ, List.set_cons_zero]
            repeat (go_big_quiet_step (first | (intro hh; with_reducible exact HC.out _ hh) | (intro _; rfl)))
            refine wpQuiet_nil ?_
            intro wq hBq
            have HB := Lib.hid (HBr.out.trans (hBq.mono HBr.out.size))
            clear hBq
            go_wp2_with fail
            go_ret
            exact ⟨by rw [Hat.out, HE2.out]; rfl, HB.out⟩
        · have hqI : ¬ (q : Int) < (s.size : Int) := by omega
          have HE2 := Lib.hid (show numE s true q = q by rw [numE, if_neg hq])
          go_wp2_with fail
          refine wp_region_class (Below wr.heap.size wr) (by kernel_rfl) (by kernel_rfl) (Below.refl _ _).drew ?_
          repeat (go_big_quiet_step (first | (intro _; rfl)))
          refine wpQuiet_load_at rfl 9 (.tmp 40) rfl ⟨b, 0, none⟩ rfl (.string s) HL0.out ?_
          simp only [Act.put, List.setIfInBounds_toArray, List.set_cons_succ, List.set_cons_zero]
          repeat (go_big_quiet_step (first | (intro _; rfl)))
          refine wpQuiet_nil ?_
          intro wq hBq
          have HB := Lib.hid (HBr.out.trans (hBq.mono HBr.out.size))
          clear hBq
          go_wp2_with fail
          go_ret
          exact ⟨by rw [Hat.out, HE2.out]; rfl, HB.out⟩
    | false =>
      cases b1 with
      | true =>
        have hhx : hx0 = true := by rw [HH.out, hb0, hb1]; rfl
        subst hhx
        clear HH
        go_wp2_with fail
        go_quiet (fail)
        rw [show s.extract at_ (at_ + 2) = F from hF.symm]
        clear hF
        go_wp2_with fail
        go_loopg [5] (s.size - (at_ + 1)) (fun g iv wr => ∃ q : Nat, q + g = s.size ∧ at_ < q ∧ iv = .int .i64 q ∧ numE s true (at_ + 1) = numE s true q ∧ Below w.heap.size w wr)
        case atStart => exact ⟨at_ + 1, by omega, by omega, by go_num, rfl, below_drewN (Below.refl _ _) _⟩
        case round =>
          obtain ⟨q, hqg, hgt, rfl, hE, hBr⟩ := hrel
          have hX := HX.out.below hBr
          have HL0 := Lib.hid (fun w1 (h1 : Below wr.heap.size wr w1) => (by have h := (hX.below h1).c0; simp [go_sem, h] : (loadVar 9 ⟨b, 0, none⟩).run Tryd.prog w1 = .ok (.string s) w1))
          have HBr := Lib.hid hBr
          have Hat := Lib.hid hE
          clear hX hBr hE
          by_cases hq : q < s.size
          · have hqI : (q : Int) < (s.size : Int) := by omega
            have hq1 : (0 : Int) ≤ (q : Int) - 1 := by omega
            have HC := Lib.hid (fun w1 (h1 : Below wr.heap.size wr w1) => (inNumber_any (byt s (q - 1)) (byt s q) true w1 (byt_lt s q)).mono (fun e w2 hh => (⟨hh.1, h1.trans (hh.2.mono h1.size)⟩ : e = .returned (.bool (inNum (byt s (q - 1)) (byt s q) true)) ∧ Below wr.heap.size wr w2)))
            have HE := Lib.hid (show numE s true q = if inNum (byt s (q - 1)) (byt s q) true = true then numE s true (q + 1) else q by rw [numE, if_pos hq])
            obtain ⟨p0, hp0⟩ : ∃ p, byt s (q - 1) = p := ⟨_, rfl⟩
            obtain ⟨p1, hp1⟩ : ∃ p, byt s q = p := ⟨_, rfl⟩
            rw [hp0, hp1] at HC HE
            have HB0 := Lib.hid hp0
            have HB1 := Lib.hid hp1
            clear hp0 hp1
            cases hin : inNum p0 p1 true with
            | true =>
              have HE2 := Lib.hid (show numE s true q = numE s true (q + 1) by rw [HE.out, if_pos hin])
              rw [hin] at HC
              clear hin
              go_wp2_with fail
              refine wp_region_class (Below wr.heap.size wr) (by kernel_rfl) (by kernel_rfl) (Below.refl _ _).drew ?_
              repeat (go_big_quiet_step (first | (intro hh; with_reducible exact HC.out _ hh) | (intro _; rfl)))
              refine wpQuiet_load_at rfl 9 (.tmp 40) rfl ⟨b, 0, none⟩ rfl (.string s) HL0.out ?_
              simp only [Act.put, List.setIfInBounds_toArray, List.set_cons_succ, List.set_cons_zero]
              repeat (go_big_quiet_step (first | (intro hh; with_reducible exact HC.out _ hh) | (intro _; rfl)))
              refine wpQuiet_load_at (by simp [Region.wanted, yielded, Act.put]) 9 (.tmp 47) rfl ⟨b, 0, none⟩ rfl (.string s) HL0.out ?_
              simp only [Act.put, List.setIfInBounds_toArray, List.set_cons_succ, List.set_cons_zero]
              repeat (go_big_quiet_step (first | (intro hh; with_reducible exact HC.out _ hh) | (intro _; rfl)))
              refine wpQuiet_index_at (by simp [Region.wanted, yielded, Act.put]) (.tmp 48) (.tmp 50) rfl s (q - 1) ((q : Int) - 1) rfl rfl (by omega) (by omega) ?_
              rw [HB0.out]
              simp only [Act.put, List.setIfInBounds_toArray, List.set_cons_succ, List.set_cons_zero]
              repeat (go_big_quiet_step (first | (intro hh; with_reducible exact HC.out _ hh) | (intro _; rfl)))
              refine wpQuiet_load_at (by simp [Region.wanted, yielded, Act.put]) 9 (.tmp 54) rfl ⟨b, 0, none⟩ rfl (.string s) HL0.out ?_
              simp only [Act.put, List.setIfInBounds_toArray, List.set_cons_succ, List.set_cons_zero]
              go_big_quiet_step (first | (intro _; rfl))
              refine wpQuiet_index_at (by simp [Region.wanted, yielded, Act.put]) (.tmp 55) (.tmp 56) rfl s (q) ((q : Int)) rfl rfl rfl (by omega) ?_
              rw [HB1.out]
              simp only [Act.put, List.setIfInBounds_toArray, List.set_cons_succ, List.set_cons_zero]
              repeat (go_big_quiet_step (first | (intro hh; with_reducible exact HC.out _ hh) | (intro _; rfl)))
              refine wpQuiet_nil ?_
              intro wq hBq
              have HB := Lib.hid (HBr.out.trans (hBq.mono HBr.out.size))
              clear hBq
              go_wp2_with fail
              go_roundg (gk - 1)
              case measure => omega
              case rel => exact ⟨q + 1, by omega, by omega, by go_num, by rw [Hat.out, HE2.out], HB.out⟩
            | false =>
              have HE2 := Lib.hid (show numE s true q = q by rw [HE.out, if_neg (by rw [hin]; decide)])
              rw [hin] at HC
              clear hin
              go_wp2_with fail
              refine wp_region_class (Below wr.heap.size wr) (by kernel_rfl) (by kernel_rfl) (Below.refl _ _).drew ?_
              repeat (go_big_quiet_step (first | (intro hh; with_reducible exact HC.out _ hh) | (intro _; rfl)))
              refine wpQuiet_load_at rfl 9 (.tmp 40) rfl ⟨b, 0, none⟩ rfl (.string s) HL0.out ?_
              simp only [Act.put, List.setIfInBounds_toArray, List.set_cons_succ, List.set_cons_zero]
              repeat (go_big_quiet_step (first | (intro hh; with_reducible exact HC.out _ hh) | (intro _; rfl)))
              refine wpQuiet_load_at (by simp [Region.wanted, yielded, Act.put]) 9 (.tmp 47) rfl ⟨b, 0, none⟩ rfl (.string s) HL0.out ?_
              simp only [Act.put, List.setIfInBounds_toArray, List.set_cons_succ, List.set_cons_zero]
              repeat (go_big_quiet_step (first | (intro hh; with_reducible exact HC.out _ hh) | (intro _; rfl)))
              refine wpQuiet_index_at (by simp [Region.wanted, yielded, Act.put]) (.tmp 48) (.tmp 50) rfl s (q - 1) ((q : Int) - 1) rfl rfl (by omega) (by omega) ?_
              rw [HB0.out]
              simp only [Act.put, List.setIfInBounds_toArray, List.set_cons_succ, List.set_cons_zero]
              repeat (go_big_quiet_step (first | (intro hh; with_reducible exact HC.out _ hh) | (intro _; rfl)))
              refine wpQuiet_load_at (by simp [Region.wanted, yielded, Act.put]) 9 (.tmp 54) rfl ⟨b, 0, none⟩ rfl (.string s) HL0.out ?_
              simp only [Act.put, List.setIfInBounds_toArray, List.set_cons_succ, List.set_cons_zero]
              go_big_quiet_step (first | (intro _; rfl))
              refine wpQuiet_index_at (by simp [Region.wanted, yielded, Act.put]) (.tmp 55) (.tmp 56) rfl s (q) ((q : Int)) rfl rfl rfl (by omega) ?_
              rw [HB1.out]
              simp only [Act.put, List.setIfInBounds_toArray, List.set_cons_succ, List.set_cons_zero]
              repeat (go_big_quiet_step (first | (intro hh; with_reducible exact HC.out _ hh) | (intro _; rfl)))
              refine wpQuiet_nil ?_
              intro wq hBq
              have HB := Lib.hid (HBr.out.trans (hBq.mono HBr.out.size))
              clear hBq
              go_wp2_with fail
              go_ret
              exact ⟨by rw [Hat.out, HE2.out]; rfl, HB.out⟩
          · have hqI : ¬ (q : Int) < (s.size : Int) := by omega
            have HE2 := Lib.hid (show numE s true q = q by rw [numE, if_neg hq])
            go_wp2_with fail
            refine wp_region_class (Below wr.heap.size wr) (by kernel_rfl) (by kernel_rfl) (Below.refl _ _).drew ?_
            repeat (go_big_quiet_step (first | (intro _; rfl)))
            refine wpQuiet_load_at rfl 9 (.tmp 40) rfl ⟨b, 0, none⟩ rfl (.string s) HL0.out ?_
            simp only [Act.put, List.setIfInBounds_toArray, List.set_cons_succ, List.set_cons_zero]
            repeat (go_big_quiet_step (first | (intro _; rfl)))
            refine wpQuiet_nil ?_
            intro wq hBq
            have HB := Lib.hid (HBr.out.trans (hBq.mono HBr.out.size))
            clear hBq
            go_wp2_with fail
            go_ret
            exact ⟨by rw [Hat.out, HE2.out]; rfl, HB.out⟩
      | false =>
        have hhx : hx0 = false := by rw [HH.out, hb0, hb1]; rfl
        subst hhx
        clear HH
        go_wp2_with fail
        go_quiet (fail)
        rw [show s.extract at_ (at_ + 2) = F from hF.symm]
        clear hF
        go_wp2_with fail
        go_loopg [5] (s.size - (at_ + 1)) (fun g iv wr => ∃ q : Nat, q + g = s.size ∧ at_ < q ∧ iv = .int .i64 q ∧ numE s false (at_ + 1) = numE s false q ∧ Below w.heap.size w wr)
        case atStart => exact ⟨at_ + 1, by omega, by omega, by go_num, rfl, below_drewN (Below.refl _ _) _⟩
        case round =>
          obtain ⟨q, hqg, hgt, rfl, hE, hBr⟩ := hrel
          have hX := HX.out.below hBr
          have HL0 := Lib.hid (fun w1 (h1 : Below wr.heap.size wr w1) => (by have h := (hX.below h1).c0; simp [go_sem, h] : (loadVar 9 ⟨b, 0, none⟩).run Tryd.prog w1 = .ok (.string s) w1))
          have HBr := Lib.hid hBr
          have Hat := Lib.hid hE
          clear hX hBr hE
          by_cases hq : q < s.size
          · have hqI : (q : Int) < (s.size : Int) := by omega
            have hq1 : (0 : Int) ≤ (q : Int) - 1 := by omega
            have HC := Lib.hid (fun w1 (h1 : Below wr.heap.size wr w1) => (inNumber_any (byt s (q - 1)) (byt s q) false w1 (byt_lt s q)).mono (fun e w2 hh => (⟨hh.1, h1.trans (hh.2.mono h1.size)⟩ : e = .returned (.bool (inNum (byt s (q - 1)) (byt s q) false)) ∧ Below wr.heap.size wr w2)))
            have HE := Lib.hid (show numE s false q = if inNum (byt s (q - 1)) (byt s q) false = true then numE s false (q + 1) else q by rw [numE, if_pos hq])
            obtain ⟨p0, hp0⟩ : ∃ p, byt s (q - 1) = p := ⟨_, rfl⟩
            obtain ⟨p1, hp1⟩ : ∃ p, byt s q = p := ⟨_, rfl⟩
            rw [hp0, hp1] at HC HE
            have HB0 := Lib.hid hp0
            have HB1 := Lib.hid hp1
            clear hp0 hp1
            cases hin : inNum p0 p1 false with
            | true =>
              have HE2 := Lib.hid (show numE s false q = numE s false (q + 1) by rw [HE.out, if_pos hin])
              rw [hin] at HC
              clear hin
              go_wp2_with fail
              refine wp_region_class (Below wr.heap.size wr) (by kernel_rfl) (by kernel_rfl) (Below.refl _ _).drew ?_
              repeat (go_big_quiet_step (first | (intro hh; with_reducible exact HC.out _ hh) | (intro _; rfl)))
              refine wpQuiet_load_at rfl 9 (.tmp 40) rfl ⟨b, 0, none⟩ rfl (.string s) HL0.out ?_
              simp only [Act.put, List.setIfInBounds_toArray, List.set_cons_succ, List.set_cons_zero]
              repeat (go_big_quiet_step (first | (intro hh; with_reducible exact HC.out _ hh) | (intro _; rfl)))
              refine wpQuiet_load_at (by simp [Region.wanted, yielded, Act.put]) 9 (.tmp 47) rfl ⟨b, 0, none⟩ rfl (.string s) HL0.out ?_
              simp only [Act.put, List.setIfInBounds_toArray, List.set_cons_succ, List.set_cons_zero]
              repeat (go_big_quiet_step (first | (intro hh; with_reducible exact HC.out _ hh) | (intro _; rfl)))
              refine wpQuiet_index_at (by simp [Region.wanted, yielded, Act.put]) (.tmp 48) (.tmp 50) rfl s (q - 1) ((q : Int) - 1) rfl rfl (by omega) (by omega) ?_
              rw [HB0.out]
              simp only [Act.put, List.setIfInBounds_toArray, List.set_cons_succ, List.set_cons_zero]
              repeat (go_big_quiet_step (first | (intro hh; with_reducible exact HC.out _ hh) | (intro _; rfl)))
              refine wpQuiet_load_at (by simp [Region.wanted, yielded, Act.put]) 9 (.tmp 54) rfl ⟨b, 0, none⟩ rfl (.string s) HL0.out ?_
              simp only [Act.put, List.setIfInBounds_toArray, List.set_cons_succ, List.set_cons_zero]
              go_big_quiet_step (first | (intro _; rfl))
              refine wpQuiet_index_at (by simp [Region.wanted, yielded, Act.put]) (.tmp 55) (.tmp 56) rfl s (q) ((q : Int)) rfl rfl rfl (by omega) ?_
              rw [HB1.out]
              simp only [Act.put, List.setIfInBounds_toArray, List.set_cons_succ, List.set_cons_zero]
              repeat (go_big_quiet_step (first | (intro hh; with_reducible exact HC.out _ hh) | (intro _; rfl)))
              refine wpQuiet_nil ?_
              intro wq hBq
              have HB := Lib.hid (HBr.out.trans (hBq.mono HBr.out.size))
              clear hBq
              go_wp2_with fail
              go_roundg (gk - 1)
              case measure => omega
              case rel => exact ⟨q + 1, by omega, by omega, by go_num, by rw [Hat.out, HE2.out], HB.out⟩
            | false =>
              have HE2 := Lib.hid (show numE s false q = q by rw [HE.out, if_neg (by rw [hin]; decide)])
              rw [hin] at HC
              clear hin
              go_wp2_with fail
              refine wp_region_class (Below wr.heap.size wr) (by kernel_rfl) (by kernel_rfl) (Below.refl _ _).drew ?_
              repeat (go_big_quiet_step (first | (intro hh; with_reducible exact HC.out _ hh) | (intro _; rfl)))
              refine wpQuiet_load_at rfl 9 (.tmp 40) rfl ⟨b, 0, none⟩ rfl (.string s) HL0.out ?_
              simp only [Act.put, List.setIfInBounds_toArray, List.set_cons_succ, List.set_cons_zero]
              repeat (go_big_quiet_step (first | (intro hh; with_reducible exact HC.out _ hh) | (intro _; rfl)))
              refine wpQuiet_load_at (by simp [Region.wanted, yielded, Act.put]) 9 (.tmp 47) rfl ⟨b, 0, none⟩ rfl (.string s) HL0.out ?_
              simp only [Act.put, List.setIfInBounds_toArray, List.set_cons_succ, List.set_cons_zero]
              repeat (go_big_quiet_step (first | (intro hh; with_reducible exact HC.out _ hh) | (intro _; rfl)))
              refine wpQuiet_index_at (by simp [Region.wanted, yielded, Act.put]) (.tmp 48) (.tmp 50) rfl s (q - 1) ((q : Int) - 1) rfl rfl (by omega) (by omega) ?_
              rw [HB0.out]
              simp only [Act.put, List.setIfInBounds_toArray, List.set_cons_succ, List.set_cons_zero]
              repeat (go_big_quiet_step (first | (intro hh; with_reducible exact HC.out _ hh) | (intro _; rfl)))
              refine wpQuiet_load_at (by simp [Region.wanted, yielded, Act.put]) 9 (.tmp 54) rfl ⟨b, 0, none⟩ rfl (.string s) HL0.out ?_
              simp only [Act.put, List.setIfInBounds_toArray, List.set_cons_succ, List.set_cons_zero]
              go_big_quiet_step (first | (intro _; rfl))
              refine wpQuiet_index_at (by simp [Region.wanted, yielded, Act.put]) (.tmp 55) (.tmp 56) rfl s (q) ((q : Int)) rfl rfl rfl (by omega) ?_
              rw [HB1.out]
              simp only [Act.put, List.setIfInBounds_toArray, List.set_cons_succ, List.set_cons_zero]
              repeat (go_big_quiet_step (first | (intro hh; with_reducible exact HC.out _ hh) | (intro _; rfl)))
              refine wpQuiet_nil ?_
              intro wq hBq
              have HB := Lib.hid (HBr.out.trans (hBq.mono HBr.out.size))
              clear hBq
              go_wp2_with fail
              go_ret
              exact ⟨by rw [Hat.out, HE2.out]; rfl, HB.out⟩
          · have hqI : ¬ (q : Int) < (s.size : Int) := by omega
            have HE2 := Lib.hid (show numE s false q = q by rw [numE, if_neg hq])
            go_wp2_with fail
            refine wp_region_class (Below wr.heap.size wr) (by kernel_rfl) (by kernel_rfl) (Below.refl _ _).drew ?_
            repeat (go_big_quiet_step (first | (intro _; rfl)))
            refine wpQuiet_load_at rfl 9 (.tmp 40) rfl ⟨b, 0, none⟩ rfl (.string s) HL0.out ?_
            simp only [Act.put, List.setIfInBounds_toArray, List.set_cons_succ, List.set_cons_zero]
            repeat (go_big_quiet_step (first | (intro _; rfl)))
            refine wpQuiet_nil ?_
            intro wq hBq
            have HB := Lib.hid (HBr.out.trans (hBq.mono HBr.out.size))
            clear hBq
            go_wp2_with fail
            go_ret
            exact ⟨by rw [Hat.out, HE2.out]; rfl, HB.out⟩
  · rw [if_neg h2] at hF
    have hmin : min ((at_ : Int) + 2) (s.size : Int) = (s.size : Int) := by omega
    have h2I : ¬ (at_ : Int) + 2 ≤ (s.size : Int) := by omega
    cases b0 with
    | true =>
      have hhx : hx0 = true := by rw [HH.out, hb0, hb1]; rfl
      subst hhx
      clear HH
      go_wp2_with fail
      go_quiet (fail)
      rw [show s.extract at_ s.size = F from hF.symm]
      clear hF
      go_wp2_with fail
      go_loopg [5] (s.size - (at_ + 1)) (fun g iv wr => ∃ q : Nat, q + g = s.size ∧ at_ < q ∧ iv = .int .i64 q ∧ numE s true (at_ + 1) = numE s true q ∧ Below w.heap.size w wr)
      case atStart => exact ⟨at_ + 1, by omega, by omega, by go_num, rfl, below_drewN (Below.refl _ _) _⟩
      case round =>
        obtain ⟨q, hqg, hgt, rfl, hE, hBr⟩ := hrel
        have hX := HX.out.below hBr
        have HL0 := Lib.hid (fun w1 (h1 : Below wr.heap.size wr w1) => (by have h := (hX.below h1).c0; simp [go_sem, h] : (loadVar 9 ⟨b, 0, none⟩).run Tryd.prog w1 = .ok (.string s) w1))
        have HBr := Lib.hid hBr
        have Hat := Lib.hid hE
        clear hX hBr hE
        by_cases hq : q < s.size
        · exfalso; omega
        · have hqI : ¬ (q : Int) < (s.size : Int) := by omega
          have HE2 := Lib.hid (show numE s true q = q by rw [numE, if_neg hq])
          go_wp2_with fail
          refine wp_region_class (Below wr.heap.size wr) (by kernel_rfl) (by kernel_rfl) (Below.refl _ _).drew ?_
          repeat (go_big_quiet_step (first | (intro _; rfl)))
          refine wpQuiet_load_at rfl 9 (.tmp 40) rfl ⟨b, 0, none⟩ rfl (.string s) HL0.out ?_
          simp only [Act.put, List.setIfInBounds_toArray, List.set_cons_succ, List.set_cons_zero]
          repeat (go_big_quiet_step (first | (intro _; rfl)))
          refine wpQuiet_nil ?_
          intro wq hBq
          have HB := Lib.hid (HBr.out.trans (hBq.mono HBr.out.size))
          clear hBq
          go_wp2_with fail
          go_ret
          exact ⟨by rw [Hat.out, HE2.out]; rfl, HB.out⟩
    | false =>
      cases b1 with
      | true =>
        have hhx : hx0 = true := by rw [HH.out, hb0, hb1]; rfl
        subst hhx
        clear HH
        go_wp2_with fail
        go_quiet (fail)
        rw [show s.extract at_ s.size = F from hF.symm]
        clear hF
        go_wp2_with fail
        go_loopg [5] (s.size - (at_ + 1)) (fun g iv wr => ∃ q : Nat, q + g = s.size ∧ at_ < q ∧ iv = .int .i64 q ∧ numE s true (at_ + 1) = numE s true q ∧ Below w.heap.size w wr)
        case atStart => exact ⟨at_ + 1, by omega, by omega, by go_num, rfl, below_drewN (Below.refl _ _) _⟩
        case round =>
          obtain ⟨q, hqg, hgt, rfl, hE, hBr⟩ := hrel
          have hX := HX.out.below hBr
          have HL0 := Lib.hid (fun w1 (h1 : Below wr.heap.size wr w1) => (by have h := (hX.below h1).c0; simp [go_sem, h] : (loadVar 9 ⟨b, 0, none⟩).run Tryd.prog w1 = .ok (.string s) w1))
          have HBr := Lib.hid hBr
          have Hat := Lib.hid hE
          clear hX hBr hE
          by_cases hq : q < s.size
          · exfalso; omega
          · have hqI : ¬ (q : Int) < (s.size : Int) := by omega
            have HE2 := Lib.hid (show numE s true q = q by rw [numE, if_neg hq])
            go_wp2_with fail
            refine wp_region_class (Below wr.heap.size wr) (by kernel_rfl) (by kernel_rfl) (Below.refl _ _).drew ?_
            repeat (go_big_quiet_step (first | (intro _; rfl)))
            refine wpQuiet_load_at rfl 9 (.tmp 40) rfl ⟨b, 0, none⟩ rfl (.string s) HL0.out ?_
            simp only [Act.put, List.setIfInBounds_toArray, List.set_cons_succ, List.set_cons_zero]
            repeat (go_big_quiet_step (first | (intro _; rfl)))
            refine wpQuiet_nil ?_
            intro wq hBq
            have HB := Lib.hid (HBr.out.trans (hBq.mono HBr.out.size))
            clear hBq
            go_wp2_with fail
            go_ret
            exact ⟨by rw [Hat.out, HE2.out]; rfl, HB.out⟩
      | false =>
        have hhx : hx0 = false := by rw [HH.out, hb0, hb1]; rfl
        subst hhx
        clear HH
        go_wp2_with fail
        go_quiet (fail)
        rw [show s.extract at_ s.size = F from hF.symm]
        clear hF
        go_wp2_with fail
        go_loopg [5] (s.size - (at_ + 1)) (fun g iv wr => ∃ q : Nat, q + g = s.size ∧ at_ < q ∧ iv = .int .i64 q ∧ numE s false (at_ + 1) = numE s false q ∧ Below w.heap.size w wr)
        case atStart => exact ⟨at_ + 1, by omega, by omega, by go_num, rfl, below_drewN (Below.refl _ _) _⟩
        case round =>
          obtain ⟨q, hqg, hgt, rfl, hE, hBr⟩ := hrel
          have hX := HX.out.below hBr
          have HL0 := Lib.hid (fun w1 (h1 : Below wr.heap.size wr w1) => (by have h := (hX.below h1).c0; simp [go_sem, h] : (loadVar 9 ⟨b, 0, none⟩).run Tryd.prog w1 = .ok (.string s) w1))
          have HBr := Lib.hid hBr
          have Hat := Lib.hid hE
          clear hX hBr hE
          by_cases hq : q < s.size
          · exfalso; omega
          · have hqI : ¬ (q : Int) < (s.size : Int) := by omega
            have HE2 := Lib.hid (show numE s false q = q by rw [numE, if_neg hq])
            go_wp2_with fail
            refine wp_region_class (Below wr.heap.size wr) (by kernel_rfl) (by kernel_rfl) (Below.refl _ _).drew ?_
            repeat (go_big_quiet_step (first | (intro _; rfl)))
            refine wpQuiet_load_at rfl 9 (.tmp 40) rfl ⟨b, 0, none⟩ rfl (.string s) HL0.out ?_
            simp only [Act.put, List.setIfInBounds_toArray, List.set_cons_succ, List.set_cons_zero]
            repeat (go_big_quiet_step (first | (intro _; rfl)))
            refine wpQuiet_nil ?_
            intro wq hBq
            have HB := Lib.hid (HBr.out.trans (hBq.mono HBr.out.size))
            clear hBq
            go_wp2_with fail
            go_ret
            exact ⟨by rw [Hat.out, HE2.out]; rfl, HB.out⟩
end Go.Proofs.YtejogobhnbjpdaaDoor
