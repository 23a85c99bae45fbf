/- Walks: the document's Part; equal lists. -/
import Derived.Test.YtdhaanaenklleaaDoorWa
namespace Go.Proofs.YtdhaanaenklleaaDoor
set_option linter.unusedVariables false
open Go.ChangeShapes Go.WideShapes Go.ChangeAt Go.RowKit

def cleanB (s : ByteArray) : Bool := s.data.toList.all fun c => !(c == 0) && !(c == 47)
def dotB (s : ByteArray) : Bool := some1 s && !(s.toList == ([46] : List UInt8)) && !(s.toList == ([46, 46] : List UInt8))
def partB (s : ByteArray) : Bool := cleanB s && dotB s

theorem clean_not (s : ByteArray) (i : Nat) (h : i < s.size) (hc : s[i] = 0 ∨ s[i] = 47) : partB s = false := by
  have hm : s[i] ∈ s.data.toList := by
    have hl : i < s.data.toList.length := by rw [ba_len]; exact h
    exact List.getElem_mem hl
  have : cleanB s = false := by
    unfold cleanB
    rw [List.all_eq_false]
    refine ⟨_, hm, ?_⟩
    rcases hc with hc | hc <;> rw [hc] <;> decide
  unfold partB; rw [this]; rfl
theorem clean_yes (s : ByteArray) (hc : ∀ j (h : j < s.size), s[j] ≠ 0 ∧ s[j] ≠ 47) : cleanB s = true := by
  unfold cleanB
  rw [List.all_eq_true]
  intro c hm
  obtain ⟨j, hj, he⟩ := List.getElem_of_mem hm
  have hj' : j < s.size := by rw [ba_len] at hj; exact hj
  have := hc j hj'
  have e : s[j]'hj' = c := he
  rw [e] at this
  simp [this.1, this.2]

set_option maxRecDepth 100000 in
set_option maxHeartbeats 400000 in
theorem part_any (s : ByteArray) (w : World) (hs : s.size ≤ 1073741824) : Calls Tryd.prog 77 #[.string s] w fun e w' => e = .returned (.bool (partB s)) ∧ w = w' := by
  go_enter Tryd.func77, Tryd.ntmps77
  go_wp2_with fail
  go_loopg [3] s.size (fun g iv wr => ∃ i : Nat, i + g = s.size ∧ iv = .int .i64 i ∧ (∀ j (h : j < s.size), j < i → s[j] ≠ 0 ∧ s[j] ≠ 47) ∧ w = wr)
  case atStart => exact ⟨0, by omega, rfl, fun j h hj => by omega, rfl⟩
  case round =>
    obtain ⟨i, hig, rfl, hno, rfl⟩ := hrel
    have Hno := Lib.hid hno
    clear hno
    by_cases hlt : i < s.size
    · have hltI : (i : Int) < (s.size : Int) := by omega
      by_cases h0 : s[i]'hlt = 0
      · have h1 : (((s[i]'hlt).toNat : Int) == (0 : Int)) = true := by rw [h0]; rfl
        have hp := Lib.hid (clean_not s i hlt (.inl h0))
        clear h0
        go_wp2_with fail
        go_ret
        exact ⟨by rw [hp.out]; rfl, rfl⟩
      have h1 : (((s[i]'hlt).toNat : Int) == (0 : Int)) = false := by
        rw [beq_eq_false_iff_ne]; intro e; exact h0 (UInt8.toNat_inj.1 (by show _ = 0; omega))
      by_cases h47 : s[i]'hlt = 47
      · have h2 : (((s[i]'hlt).toNat : Int) == (47 : Int)) = true := by rw [h47]; rfl
        have hp := Lib.hid (clean_not s i hlt (.inr h47))
        clear h0 h47
        go_wp2_with fail
        go_ret
        exact ⟨by rw [hp.out]; rfl, rfl⟩
      have h2 : (((s[i]'hlt).toNat : Int) == (47 : Int)) = false := by
        rw [beq_eq_false_iff_ne]; intro e; exact h47 (UInt8.toNat_inj.1 (by show _ = 47; omega))
      have hn : ∀ j (h : j < s.size), j < i + 1 → s[j] ≠ 0 ∧ s[j] ≠ 47 := by
        intro j h hj
        by_cases e : j = i
        · subst e; exact ⟨h0, h47⟩
        · exact Hno.out j h (by omega)
      have Hn := Lib.hid hn
      clear h0 h47 hn
      go_wp2_with fail
      go_roundg (gk - 1)
      case measure => omega
      case rel => exact ⟨i + 1, by omega, by go_num, Hn.out, rfl⟩
    · have hi : i = s.size := by omega
      subst hi
      have hc := clean_yes s (fun j h => Hno.out j h h)
      have hp : partB s = dotB s := by unfold partB; rw [hc]; rfl
      have Hp := Lib.hid hp
      clear hc hp
      cases hs1 : some1 s with
      | false =>
        have e := empty_of s hs1
        have Hd := Lib.hid (show dotB s = false by unfold dotB; rw [hs1]; rfl)
        have h1 : (!s.toList.isEmpty) = false := by rw [e, Lib.toList_data]; rfl
        have h2 : (s.toList == ([] : List UInt8)) = true := by rw [e, Lib.toList_data]; rfl
        clear e hs1
        go_wp2_with fail
        go_ret
        exact ⟨by rw [Hp.out, Hd.out]; rfl, rfl⟩
      | true =>
        have n1 := toList_some s hs1
        have n2 : (s.toList == ([] : List UInt8)) = false := by
          have := toList_empty s hs1
          rw [Lib.toList_data ⟨#[]⟩] at this
          exact this
        cases hd1 : (s.toList == ([46] : List UInt8)) with
        | true =>
          have Hd := Lib.hid (show dotB s = false by unfold dotB; rw [hs1, hd1]; rfl)
          clear hs1
          go_wp2_with fail
          go_ret
          exact ⟨by rw [Hp.out, Hd.out]; rfl, rfl⟩
        | false =>
          cases hd2 : (s.toList == ([46, 46] : List UInt8)) with
          | true =>
            have Hd := Lib.hid (show dotB s = false by unfold dotB; rw [hs1, hd1, hd2]; rfl)
            clear hs1
            go_wp2_with fail
            go_ret
            exact ⟨by rw [Hp.out, Hd.out]; rfl, rfl⟩
          | false =>
            have Hd := Lib.hid (show dotB s = true by unfold dotB; rw [hs1, hd1, hd2]; rfl)
            clear hs1
            go_wp2_with fail
            go_ret
            exact ⟨by rw [Hp.out, Hd.out]; rfl, rfl⟩
end Go.Proofs.YtdhaanaenklleaaDoor
