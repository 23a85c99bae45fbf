/- Walks: whether two lists of texts are the same. -/
import Derived.Test.YtpibehfmbmincaaGreatDoorAp
namespace Go.Proofs.YtpibehfmbmincaaGreatDoor
set_option linter.unusedVariables false
open Go.ChangeShapes Go.WideShapes Go.ChangeAt Go.RowKit

theorem toList_eq {x y : ByteArray} (h : (!x.toList == y.toList) = false) : x = y := by
  have : x.toList = y.toList := by simpa using h
  rw [Lib.toList_data, Lib.toList_data] at this
  exact ByteArray.ext (Array.toList_inj.1 this)

theorem toList_ne {x y : ByteArray} (h : (!x.toList == y.toList) = true) : x ≠ y := by
  rintro rfl
  simp at h

/-! ### In -/
/-- Whether a list has a text. -/
def inB (ss : List ByteArray) (x : ByteArray) : Bool := ss.any fun y => decide (y = x)
theorem inB_iff (ss : List ByteArray) (x : ByteArray) : inB ss x = true ↔ x ∈ ss := by
  simp [inB]
theorem inB_not (ss : List ByteArray) (x : ByteArray) : inB ss x = false ↔ x ∉ ss := by
  rw [← inB_iff]; simp

set_option maxHeartbeats 400000 in
theorem in_any (v : Value) (ss : List ByteArray) (x : ByteArray) (w : World) (hv : Strs w v ss) :
    Calls Tryz.prog 9 #[v, .string x] w fun e w' => e = .returned (.bool (inB ss x)) ∧ w = w' := by
  obtain ⟨p, cap, rfl, hp⟩ := strs_shape hv
  have Hp := Lib.hid hp
  obtain ⟨len, hlen⟩ : ∃ len, len = ss.length := ⟨_, rfl⟩
  rw [← hlen] at Hp ⊢
  have Hlen := Lib.hid hlen
  clear hv hp hlen
  go_enter Tryz.func9, Tryz.ntmps9
  go_wp2
  go_loop [6, 9] (fun _ i => ∃ k : Nat, k ≤ len ∧ i = .int .i64 k ∧ x ∉ ss.take k) (fun _ i => len - (intOf i).toNat)
  case atStart => exact ⟨0, by omega, rfl, by simp⟩
  case round =>
    obtain ⟨k, hk, rfl, hno⟩ := hrel
    have Hno := Lib.hid hno
    clear hno
    by_cases hlt : k < len
    · obtain ⟨b, off, rfl, hb, hcap, hmax, hcell⟩ := Hp.out (by omega)
      have hc := hcell k hlt
      have hkl : k < ss.length := by have := Hlen.out; omega
      have hge : ss.getD k ByteArray.empty = ss[k] := by simp [List.getD, hkl]
      have hts := List.take_succ_eq_append_getElem hkl
      rw [← hge] at hts
      have hmem : ss.getD k ByteArray.empty ∈ ss := by rw [hge]; exact List.getElem_mem hkl
      unfold maxLen at hmax
      obtain ⟨y, hy⟩ : ∃ y, y = ss.getD k ByteArray.empty := ⟨_, rfl⟩
      rw [← hy] at hc hts hmem
      have Hts := Lib.hid hts
      have Hmem := Lib.hid hmem
      clear hy hts hge hcell hmem
      by_cases hxy : y = x
      · have h1 := beq_of hxy
        have hin : inB ss x = true := by rw [inB_iff, ← hxy]; exact Hmem.out
        have Hin := Lib.hid hin
        clear hin hxy
        go_wp2
        go_ret
        exact ⟨by rw [Hin.out]; rfl, rfl⟩
      · have h1 := beq_of_ne hxy
        have hnx : x ∉ ss.take (k + 1) := by
          rw [Hts.out, List.mem_append, List.mem_singleton, not_or]
          exact ⟨Hno.out, fun e => hxy e.symm⟩
        have Hnx := Lib.hid hnx
        clear hnx hxy
        go_wp2
        exact ⟨⟨k + 1, by omega, by go_num, Hnx.out⟩, by simp [intOf]; omega⟩
    · have hin : inB ss x = false := by
        have hno := Hno.out
        rw [List.take_of_length_le (by have := Hlen.out; omega)] at hno
        rw [inB_not]; exact hno
      have Hin := Lib.hid hin
      clear hin
      go_wp2
      go_ret
      exact ⟨by rw [Hin.out]; rfl, rfl⟩

end Go.Proofs.YtpibehfmbmincaaGreatDoor
