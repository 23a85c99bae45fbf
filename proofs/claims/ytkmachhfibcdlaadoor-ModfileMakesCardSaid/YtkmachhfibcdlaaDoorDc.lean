/- Walks: words. -/
import Derived.Test.YtkmachhfibcdlaaDoorDb
namespace Go.Proofs.YtkmachhfibcdlaaDoor
set_option linter.unusedVariables false
set_option linter.unusedSimpArgs false
open Go.ChangeShapes Go.WideShapes Go.ChangeAt Go.RowKit

/-- May this sign stand there in a word? -/
def okw (s : ByteArray) (i : Nat) : Bool := decide (97 ≤ byt s i ∧ byt s i ≤ 122) || decide (48 ≤ byt s i ∧ byt s i ≤ 57) || decide (byt s i = 46) || decide (byt s i = 47 ∧ 0 < i ∧ byt s (i - 1) ≠ 47)
def wordP (s : ByteArray) : Prop := (∀ i, i < s.size → okw s i = true) ∧ s ≠ ⟨#[]⟩ ∧ s.size ≤ 100
def WordEnd (s : ByteArray) (w : World) (e : Ending) (w' : World) : Prop := (∃ b, e = .returned (.bool b) ∧ (b = true ↔ wordP s)) ∧ w = w'
set_option maxRecDepth 100000 in
set_option maxHeartbeats 2000000 in
theorem word_any (s : ByteArray) (w : World) (hs : s.size ≤ 140737488351232) : Calls Tryd.prog 10 #[.string s] w (WordEnd s w) := by
  go_enter Tryd.func10, Tryd.ntmps10
  go_wp2_with fail
  go_loopg [3, 4] s.size (fun g iv _ wr => ∃ k : Nat, k + g = s.size ∧ iv = .int .i64 k ∧ Hid (∀ i, i < k → okw s i = true) ∧ wr = w)
  case atStart => exact ⟨0, by omega, rfl, Lib.hid (fun i h => absurd h (Nat.not_lt_zero _)), rfl⟩
  case round =>
    obtain ⟨k, hkg, rfl, HA, rfl⟩ := hrel
    by_cases hk : k < s.size
    case neg =>
      have hkI : ¬ (k : Int) < (s.size : Int) := by omega
      have HA2 := Lib.hid (show ∀ i, i < s.size → okw s i = true from fun i hi => HA.out i (by omega))
      have hpe : (s.toList == ([] : List UInt8)) = decide (s = ⟨#[]⟩) := str_lit s #[]
      by_cases h0 : s = ⟨#[]⟩
      · rw [decide_eq_true h0] at hpe
        have hpn := ne_of_eqb hpe
        have HF := Lib.hid (show ¬ wordP s from fun h => h.2.1 h0)
        clear h0
        go_wp2_with fail
        go_ret
        exact ⟨⟨false, rfl, fun h => (by cases h), fun h => absurd h HF.out⟩, rfl⟩
      rw [decide_eq_false h0] at hpe
      have hpn := ne_of_eqb hpe
      by_cases h1 : s.size ≤ 100
      · have h1I : (s.size : Int) ≤ 100 := by omega
        have HT := Lib.hid (show wordP s from ⟨HA2.out, h0, h1⟩)
        clear h0
        go_wp2_with fail
        go_ret
        exact ⟨⟨true, rfl, fun _ => HT.out, fun _ => rfl⟩, rfl⟩
      · have h1I : ¬ (s.size : Int) ≤ 100 := by omega
        have HF := Lib.hid (show ¬ wordP s from fun h => h1 h.2.2)
        clear h0
        go_wp2_with fail
        go_ret
        exact ⟨⟨false, rfl, fun h => (by cases h), fun h => absurd h HF.out⟩, rfl⟩
    have hkI : (k : Int) < (s.size : Int) := by omega
    have hb : (s[k]'hk).toNat = byt s k := by unfold byt; rw [get_is s k hk]
    obtain ⟨c, hc0⟩ : ∃ c, byt s k = c := ⟨_, rfl⟩
    rcases (by omega : c < 46 ∨ c = 46 ∨ c = 47 ∨ (48 ≤ c ∧ c ≤ 57) ∨ (58 ≤ c ∧ c ≤ 96) ∨ (97 ≤ c ∧ c ≤ 122) ∨ 123 ≤ c) with hc | hc | hc | hc | hc | hc | hc
    · have t97 : ¬ (97 : Int) ≤ ((s[k]'hk).toNat : Int) := by omega
      have t122 : ((s[k]'hk).toNat : Int) ≤ (122 : Int) := by omega
      have t48 : ¬ (48 : Int) ≤ ((s[k]'hk).toNat : Int) := by omega
      have t57 : ((s[k]'hk).toNat : Int) ≤ (57 : Int) := by omega
      have t46 : (((s[k]'hk).toNat : Int) == 46) = false := beq_eq_false_iff_ne.2 (by omega)
      have t47 : (((s[k]'hk).toNat : Int) == 47) = false := beq_eq_false_iff_ne.2 (by omega)
      have HF := Lib.hid (show ¬ wordP s from fun h => by have := h.1 k hk; unfold okw at this; rw [hc0] at this; simp at this; omega)
      clear hb hc0 hc HA
      go_wp2_with fail
      go_ret
      exact ⟨⟨false, rfl, fun h => (by cases h), fun h => absurd h HF.out⟩, rfl⟩
    · have t97 : ¬ (97 : Int) ≤ ((s[k]'hk).toNat : Int) := by omega
      have t122 : ((s[k]'hk).toNat : Int) ≤ (122 : Int) := by omega
      have t48 : ¬ (48 : Int) ≤ ((s[k]'hk).toNat : Int) := by omega
      have t57 : ((s[k]'hk).toNat : Int) ≤ (57 : Int) := by omega
      have t46 : (((s[k]'hk).toNat : Int) == 46) = true := beq_iff_eq.2 (by omega)
      have t47 : (((s[k]'hk).toNat : Int) == 47) = false := beq_eq_false_iff_ne.2 (by omega)
      have HG := Lib.hid (show ∀ i, i < k + 1 → okw s i = true from fun i hi => by
        by_cases he : i = k
        · subst he; unfold okw; rw [hc0]; simp; omega
        · exact HA.out i (by omega))
      clear hb hc0 hc
      go_wp2_with fail
      go_roundg (gk - 1)
      case measure => omega
      case rel => exact ⟨k + 1, by omega, by go_num, HG, rfl⟩
    · have hc47 := hc
      by_cases hk0 : k = 0
      · subst hk0
        have t97 : ¬ (97 : Int) ≤ ((s[0]'hk).toNat : Int) := by omega
        have t122 : ((s[0]'hk).toNat : Int) ≤ (122 : Int) := by omega
        have t48 : ¬ (48 : Int) ≤ ((s[0]'hk).toNat : Int) := by omega
        have t57 : ((s[0]'hk).toNat : Int) ≤ (57 : Int) := by omega
        have t46 : (((s[0]'hk).toNat : Int) == 46) = false := beq_eq_false_iff_ne.2 (by omega)
        have t47 : (((s[0]'hk).toNat : Int) == 47) = true := beq_iff_eq.2 (by omega)
        have HF := Lib.hid (show ¬ wordP s from fun h => by have := h.1 0 hk; unfold okw at this; rw [hc0] at this; simp at this; omega)
        clear hb hc0 hc HA hc47
        go_wp2_with fail
        go_ret
        exact ⟨⟨false, rfl, fun h => (by cases h), fun h => absurd h HF.out⟩, rfl⟩
      obtain ⟨q, rfl⟩ : ∃ q, k = q + 1 := ⟨k - 1, by omega⟩
      have t97 : ¬ (97 : Int) ≤ ((s[q + 1]'hk).toNat : Int) := by omega
      have t122 : ((s[q + 1]'hk).toNat : Int) ≤ (122 : Int) := by omega
      have t48 : ¬ (48 : Int) ≤ ((s[q + 1]'hk).toNat : Int) := by omega
      have t57 : ((s[q + 1]'hk).toNat : Int) ≤ (57 : Int) := by omega
      have t46 : (((s[q + 1]'hk).toNat : Int) == 46) = false := beq_eq_false_iff_ne.2 (by omega)
      have t47 : (((s[q + 1]'hk).toNat : Int) == 47) = true := beq_iff_eq.2 (by omega)
      have hqs : q < s.size := by omega
      have hkI2 : (q : Int) + 1 < (s.size : Int) := by omega
      have hqI2 : (q : Int) < (s.size : Int) := by omega
      have hbq : (s[q]'hqs).toNat = byt s q := by unfold byt; rw [get_is s q hqs]
      by_cases hp : byt s q = 47
      · have u : (((s[q]'hqs).toNat : Int) == 47) = true := beq_iff_eq.2 (by omega)
        have un := ne_of_eqb u
        have HF := Lib.hid (show ¬ wordP s from fun h => by have := h.1 (q + 1) hk; unfold okw at this; rw [hc0, Nat.add_sub_cancel, hp] at this; simp at this; omega)
        clear hb hc0 hc HA hbq hp hc47 hk0
        go_wp2_with fail
        go_ret
        exact ⟨⟨false, rfl, fun h => (by cases h), fun h => absurd h HF.out⟩, rfl⟩
      · have u : (((s[q]'hqs).toNat : Int) == 47) = false := beq_eq_false_iff_ne.2 (by omega)
        have un := ne_of_eqb u
        have HG := Lib.hid (show ∀ i, i < q + 1 + 1 → okw s i = true from fun i hi => by
          by_cases he : i = q + 1
          · rw [he]; unfold okw; rw [hc0, Nat.add_sub_cancel]; simp; omega
          · exact HA.out i (by omega))
        clear hb hc0 hc hbq hp hc47 hk0
        go_wp2_with fail
        go_roundg (gk - 1)
        case measure => omega
        case rel => exact ⟨q + 1 + 1, by omega, by go_num, HG, rfl⟩
    · have t97 : ¬ (97 : Int) ≤ ((s[k]'hk).toNat : Int) := by omega
      have t122 : ((s[k]'hk).toNat : Int) ≤ (122 : Int) := by omega
      have t48 : (48 : Int) ≤ ((s[k]'hk).toNat : Int) := by omega
      have t57 : ((s[k]'hk).toNat : Int) ≤ (57 : Int) := by omega
      have t46 : (((s[k]'hk).toNat : Int) == 46) = false := beq_eq_false_iff_ne.2 (by omega)
      have t47 : (((s[k]'hk).toNat : Int) == 47) = false := beq_eq_false_iff_ne.2 (by omega)
      have HG := Lib.hid (show ∀ i, i < k + 1 → okw s i = true from fun i hi => by
        by_cases he : i = k
        · subst he; unfold okw; rw [hc0]; simp; omega
        · exact HA.out i (by omega))
      clear hb hc0 hc
      go_wp2_with fail
      go_roundg (gk - 1)
      case measure => omega
      case rel => exact ⟨k + 1, by omega, by go_num, HG, rfl⟩
    · have t97 : ¬ (97 : Int) ≤ ((s[k]'hk).toNat : Int) := by omega
      have t122 : ((s[k]'hk).toNat : Int) ≤ (122 : Int) := by omega
      have t48 : (48 : Int) ≤ ((s[k]'hk).toNat : Int) := by omega
      have t57 : ¬ ((s[k]'hk).toNat : Int) ≤ (57 : Int) := by omega
      have t46 : (((s[k]'hk).toNat : Int) == 46) = false := beq_eq_false_iff_ne.2 (by omega)
      have t47 : (((s[k]'hk).toNat : Int) == 47) = false := beq_eq_false_iff_ne.2 (by omega)
      have HF := Lib.hid (show ¬ wordP s from fun h => by have := h.1 k hk; unfold okw at this; rw [hc0] at this; simp at this; omega)
      clear hb hc0 hc HA
      go_wp2_with fail
      go_ret
      exact ⟨⟨false, rfl, fun h => (by cases h), fun h => absurd h HF.out⟩, rfl⟩
    · have t97 : (97 : Int) ≤ ((s[k]'hk).toNat : Int) := by omega
      have t122 : ((s[k]'hk).toNat : Int) ≤ (122 : Int) := by omega
      have t48 : (48 : Int) ≤ ((s[k]'hk).toNat : Int) := by omega
      have t57 : ¬ ((s[k]'hk).toNat : Int) ≤ (57 : Int) := by omega
      have t46 : (((s[k]'hk).toNat : Int) == 46) = false := beq_eq_false_iff_ne.2 (by omega)
      have t47 : (((s[k]'hk).toNat : Int) == 47) = false := beq_eq_false_iff_ne.2 (by omega)
      have HG := Lib.hid (show ∀ i, i < k + 1 → okw s i = true from fun i hi => by
        by_cases he : i = k
        · subst he; unfold okw; rw [hc0]; simp; omega
        · exact HA.out i (by omega))
      clear hb hc0 hc
      go_wp2_with fail
      go_roundg (gk - 1)
      case measure => omega
      case rel => exact ⟨k + 1, by omega, by go_num, HG, rfl⟩
    · have t97 : (97 : Int) ≤ ((s[k]'hk).toNat : Int) := by omega
      have t122 : ¬ ((s[k]'hk).toNat : Int) ≤ (122 : Int) := by omega
      have t48 : (48 : Int) ≤ ((s[k]'hk).toNat : Int) := by omega
      have t57 : ¬ ((s[k]'hk).toNat : Int) ≤ (57 : Int) := by omega
      have t46 : (((s[k]'hk).toNat : Int) == 46) = false := beq_eq_false_iff_ne.2 (by omega)
      have t47 : (((s[k]'hk).toNat : Int) == 47) = false := beq_eq_false_iff_ne.2 (by omega)
      have HF := Lib.hid (show ¬ wordP s from fun h => by have := h.1 k hk; unfold okw at this; rw [hc0] at this; simp at this; omega)
      clear hb hc0 hc HA
      go_wp2_with fail
      go_ret
      exact ⟨⟨false, rfl, fun h => (by cases h), fun h => absurd h HF.out⟩, rfl⟩
end Go.Proofs.YtkmachhfibcdlaaDoor
