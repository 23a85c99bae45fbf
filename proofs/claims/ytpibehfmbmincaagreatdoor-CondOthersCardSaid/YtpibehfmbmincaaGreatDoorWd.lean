/- Walks: whether a sign stands next. -/
import Derived.Test.YtpibehfmbmincaaGreatDoorWc
import Derived.Test.YtpibehfmbmincaaGreatDoorSh
import Derived.Shelf.Strings.SlTrimAscii
namespace Go.Proofs.YtpibehfmbmincaaGreatDoor
set_option linter.unusedVariables false
open Go.ChangeShapes Go.WideShapes Go.ChangeAt Go.RowKit

theorem trim_any (s : ByteArray) (w : World) : Calls Tryz.prog 105 #[.string s, .string ⟨#[32, 9]⟩] w fun e w' => e = .returned (.string (mkB (trimL s.data.toList))) ∧ Below w.heap.size w w' := by
  refine (Any.strings_TrimLeft_laid Tryz.lays161 (by kernel_rfl) s ⟨#[32, 9]⟩ w (by decide) ?_).mono ?_
  · intro j b hj
    match j, hj with
    | 0, hj => simp at hj; subst hj; decide
    | 1, hj => simp at hj; subst hj; decide
    | j + 2, hj => simp at hj
  · rintro e w' ⟨rfl, hB⟩
    refine ⟨?_, hB⟩
    have h : Lib.trimLeftS s.data.toList (⟨#[32, 9]⟩ : ByteArray).data.toList = trimL s.data.toList := by
      unfold Lib.trimLeftS trimL
      congr 1
      funext c
      show ([32, 9] : List UInt8).contains c = blank c
      unfold blank
      rw [Bool.eq_iff_iff]
      simp
    rw [h]; rfl
theorem cutPre_any (s p : ByteArray) (w : World) : Calls Tryz.prog 24 #[.string s, .string p] w fun e w' => e = .returned (.tuple #[.string (mkB (Lib.trimPrefix s.data.toList p.data.toList)), .bool (Lib.hasPrefix s.data.toList p.data.toList)]) ∧ w = w' := by
  refine (Tryz.strings_CutPrefix s p w).mono ?_
  rintro e w' ⟨rfl, rfl⟩
  exact ⟨rfl, rfl⟩
theorem isS_1 (sg l : List UInt8) : (isS sg l).1 = Lib.hasPrefix (trimL l) sg := by
  unfold isS Lib.hasPrefix
  split
  · rename_i h; rw [h]
  · rename_i h; rw [Bool.eq_false_iff.2 h]
theorem isS_2 (sg l : List UInt8) : (isS sg l).2 = Lib.trimPrefix (trimL l) sg := by
  unfold isS Lib.trimPrefix Lib.hasPrefix
  split
  · rename_i h; rfl
  · rename_i h; rfl
theorem Rd.lt {base b : Nat} {s : St} {w : World} (h : Rd base b s w) : b < w.heap.size := by
  obtain ⟨_, pv, h1, _⟩ := h
  exact lt_of_block h1
theorem Rd.below {base b : Nat} {s : St} {w w' : World} (h : Rd base b s w) (hB : Below w.heap.size w w') : Rd base b s w' := by
  have hl := h.lt
  obtain ⟨h0, pv, h1, h2, h3⟩ := h
  exact ⟨h0, pv, (hB.block b hl).trans h1, ownsRow_below h2 hB, h3⟩
theorem Rd.cells {base b : Nat} {s : St} {w : World} (h : Rd base b s w) : w.cell? ⟨b, 0, none⟩ = some (.string (mkB s.rest)) ∧ w.frozen? ⟨b, 0, none⟩ = false := by
  obtain ⟨h0, pv, h1, h2, h3⟩ := h
  exact ⟨by rw [block_cell h1]; rfl, block_free h1 0⟩

def IsEnd (base b : Nat) (sg : List UInt8) (s : St) (w : World) (e : Ending) (w' : World) : Prop :=
  e = .returned (.bool (isS sg s.rest).1) ∧ Rd base b { s with rest := (isS sg s.rest).2 } w' ∧ Below base w w'
set_option maxHeartbeats 400000 in
theorem is_any (base b : Nat) (sg : List UInt8) (s : St) (w : World) (h : Rd base b s w) : Calls Tryz.prog 95 #[.pointer (some ⟨b, 0, none⟩), .string (mkB sg)] w (IsEnd base b sg s w) := by
  have HR := Lib.hid h
  have hb := h.1
  have hbl := h.lt
  have hc := h.cells.1
  have HT := Lib.hid (fun w1 => trim_any (mkB s.rest) w1)
  have HC := Lib.hid (fun w1 => cutPre_any (mkB (trimL s.rest)) (mkB sg) w1)
  rw [mkB_toList] at HT
  rw [mkB_toList, mkB_toList, ← isS_1, ← isS_2] at HC
  have He := Lib.hid (show ∀ w', Rd base b { s with rest := (isS sg s.rest).2 } w' → Below base w w' → IsEnd base b sg s w (.returned (.bool (isS sg s.rest).1)) w' from fun w' h1 h2 => ⟨rfl, h1, h2⟩)
  clear h
  generalize (isS sg s.rest).1 = ok at *
  generalize (isS sg s.rest).2 = r at *
  generalize mkB sg = g at *
  generalize mkB (trimL s.rest) = t at *
  go_enter Tryz.func95, Tryz.ntmps95
  go_wp2_with fail
  refine (HT.out _).mono ?_
  rintro e w1 ⟨rfl, hB⟩
  have hR1 := HR.out.below hB
  have hc1 := hR1.cells.1
  have hf1 := hR1.cells.2
  have HR1 := Lib.hid hR1
  clear hR1 hc
  go_wp2_with fail
  refine (HC.out _).mono ?_
  rintro e w2 ⟨rfl, rfl⟩
  go_wp2_with fail
  go_ret
  exact He.out _ (HR1.out.rest r) ((hB.mono (by omega)).setCell hb _)
end Go.Proofs.YtpibehfmbmincaaGreatDoor
