/- Walks: blanks and line feeds alone. -/
import Derived.Test.YtejogobhnbjpdaaDoorLd
namespace Go.Proofs.YtejogobhnbjpdaaDoor
set_option linter.unusedVariables false
set_option linter.unusedSimpArgs false
open Go.ChangeShapes Go.WideShapes Go.ChangeAt Go.RowKit

theorem byt_at (s : ByteArray) (j : Nat) (h : j < s.size) : (s[j]'h).toNat = byt s j := by unfold byt; rw [get_is s j h]
set_option maxRecDepth 100000 in
set_option maxHeartbeats 1000000 in
theorem blank20 (t : ByteArray) (w : World) (hs : t.size ≤ 1048576) (h : ∀ j, j < t.size → byt t j = 10 ∨ byt t j = 32 ∨ byt t j = 9 ∨ byt t j = 13) : Calls Tryd.prog 20 #[.string t] w fun e w' => e = .returned (.bool true) ∧ w = w' := by
  have H := Lib.hid h
  clear h
  go_enter Tryd.func20, Tryd.ntmps20
  go_wp2_with fail
  go_loopg [3] t.size (fun g iv wr => ∃ j : Nat, j + g = t.size ∧ iv = .int .i64 j ∧ w = wr)
  case atStart => exact ⟨0, by omega, rfl, rfl⟩
  case round =>
    obtain ⟨j, hjg, rfl, rfl⟩ := hrel
    by_cases hj : j < t.size
    · have hjI : (j : Int) < (t.size : Int) := by omega
      have hb := byt_at t j hj
      have h8 : (t[j]'hj).toNat ≤ 255 := by have := (t[j]'hj).toNat_lt; omega
      have HB := Lib.hid (fun w1 => refBlank_any (((t[j]'hj).toNat : Nat) : Int) w1)
      by_cases h10 : byt t j = 10
      · have e10 : (((t[j]'hj).toNat : Int) == 10) = true := beq_iff_eq.2 (by rw [hb]; omega)
        have e10n : (((t[j]'hj).toNat : Int) != 10) = false := by rw [bne, e10]; rfl
        clear hb h10
        go_wp2_with fail
        go_roundg (gk - 1)
        case measure => omega
        case rel => exact ⟨j + 1, by omega, by go_num, rfl⟩
      · have e10 : (((t[j]'hj).toNat : Int) == 10) = false := beq_eq_false_iff_ne.2 (by rw [hb]; omega)
        have e10n : (((t[j]'hj).toNat : Int) != 10) = true := by rw [bne, e10]; rfl
        have hbl : blkR (((t[j]'hj).toNat : Nat) : Int) = true := by
          rw [hb]
          have := H.out j hj
          exact decide_eq_true (by omega)
        rw [hbl] at HB
        clear hb h10 hbl
        go_wp2_with fail
        refine (HB.out _).mono ?_
        rintro r w1 ⟨rfl, rfl⟩
        go_wp2_with fail
        go_roundg (gk - 1)
        case measure => omega
        case rel => exact ⟨j + 1, by omega, by go_num, rfl⟩
    · have hjI : ¬ (j : Int) < (t.size : Int) := by omega
      go_wp2_with fail
      go_ret
      exact ⟨rfl, rfl⟩
theorem gap_ext {s : ByteArray} {a b : Nat} (h : Gap s a b) (hab : a ≤ b) (hb : b ≤ s.size) : ∀ j, j < (s.extract a b).size → byt (s.extract a b) j = 10 ∨ byt (s.extract a b) j = 32 ∨ byt (s.extract a b) j = 9 ∨ byt (s.extract a b) j = 13 := by
  intro j hj
  have hsz : (s.extract a b).size = b - a := by rw [ByteArray.size_extract]; omega
  have e : byt (s.extract a b) j = byt s (a + j) := by
    unfold byt
    rw [get_list]
    have := ext_get s a (b - a) j (by omega)
    rw [show a + (b - a) = b by omega, if_pos (by omega)] at this
    rw [this]; rfl
  rw [e]
  exact h (a + j) (by omega) (by omega)
end Go.Proofs.YtejogobhnbjpdaaDoor
