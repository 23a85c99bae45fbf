/- Walks: the document's record at a beginning. -/
import Derived.Test.YtcbddkncaeancaaWc
namespace Go.Proofs.Ytcbddkncaeancaa
set_option linter.unusedVariables false
open Go.ChangeShapes Go.WideShapes Go.ChangeAt Go.RowKit

/-- An answer of a record: the text, and that it is whole; or none. -/
def WholeEnd (w : World) (r : Option ByteArray) (e : Ending) (w' : World) : Prop :=
  Below w.heap.size w w' ∧ match r with
  | none => ∃ t : ByteArray, e = .returned (.tuple #[.string t, .bool false])
  | some s => e = .returned (.tuple #[.string s, .bool true])

set_option maxHeartbeats 400000 in
theorem refWhole_short (s : ByteArray) (w : World) (h : s.size < 8) :
    Calls Try.prog 19 #[.string s] w (WholeEnd w (wholeL s.data.toList)) := by
  have e : wholeL s.data.toList = none := by unfold wholeL; rw [if_pos (by rw [ba_len]; exact h)]
  rw [e]
  clear e
  go_enter Try.func19, Try.ntmps19
  go_wp2
  go_ret2
  exact ⟨Below.refl _ _, _, rfl⟩

theorem wholeL_great (s : ByteArray) (h : 8 ≤ s.size) (hg : 65536 < le4 s.data.toList ∨ s.size < le4 s.data.toList + 8) : wholeL s.data.toList = none := by
  unfold wholeL
  rw [ba_len, if_neg (by omega), if_pos hg]

theorem wholeL_fits (s : ByteArray) (n : Nat) (h : 8 ≤ s.size) (hn : n = le4 s.data.toList) (h1 : n ≤ 65536) (h2 : n + 8 ≤ s.size) :
    wholeL s.data.toList = if crc (s.extract 8 (8 + n)).data.toList = le4 (s.data.toList.drop 4) then some (s.extract 8 (8 + n)) else none := by
  have e : (s.data.toList.drop 8).take n = (s.extract 8 (8 + n)).data.toList := by rw [Lib.extract_data]; congr 1; omega
  unfold wholeL
  rw [ba_len, if_neg (by omega), ← hn, if_neg (by omega), e, mkB_data]

theorem word_beq (s : ByteArray) (c : Nat) (h : 8 ≤ s.size) (hc : c < 4294967296) : ((mkB (wordL c)).toList == (s.extract 4 8).toList) = decide (c = le4 (s.data.toList.drop 4)) := by
  have hl : 4 ≤ (s.data.toList.drop 4).length := by rw [List.length_drop, ba_len]; omega
  have e : (s.extract 4 8).data.toList = (s.data.toList.drop 4).take 4 := by rw [Lib.extract_data]
  rw [Lib.toList_data, Lib.toList_data, mkB_toList, e, ← word_le4 _ hl]
  by_cases hh : c = le4 (s.data.toList.drop 4)
  · rw [← hh]; simp
  · have : wordL c ≠ wordL (le4 (s.data.toList.drop 4)) := fun e => hh (word_inj hc (le4_lt _) e)
    simp [hh, this]

theorem getD_of (s : ByteArray) (i : Nat) (h : i < s.size) : s.data.toList.getD i 0 = s[i]'h := by
  rw [List.getD_eq_getElem?_getD, List.getElem?_eq_getElem (by rw [ba_len]; exact h)]; rfl

set_option maxHeartbeats 400000 in
theorem refWhole_long (s : ByteArray) (w : World) (h : 8 ≤ s.size) (hs : s.size ≤ 9223372036854775807) :
    Calls Try.prog 19 #[.string s] w (WholeEnd w (wholeL s.data.toList)) := by
  have i0 : 0 < s.size := by omega
  have i1 : 1 < s.size := by omega
  have i2 : 2 < s.size := by omega
  have i3 : 3 < s.size := by omega
  have j1 : (1 : Int) < (s.size : Int) := by omega
  have j2 : (2 : Int) < (s.size : Int) := by omega
  have j3 : (3 : Int) < (s.size : Int) := by omega
  have hn : (s[0]'i0).toNat + 256 * (s[1]'i1).toNat + 65536 * (s[2]'i2).toNat + 16777216 * (s[3]'i3).toNat = le4 s.data.toList := by
    unfold le4; rw [getD_of s 0 i0, getD_of s 1 i1, getD_of s 2 i2, getD_of s 3 i3]
  obtain ⟨b0, hb0⟩ : ∃ b0, b0 = (s[0]'i0).toNat := ⟨_, rfl⟩
  obtain ⟨b1, hb1⟩ : ∃ b1, b1 = (s[1]'i1).toNat := ⟨_, rfl⟩
  obtain ⟨b2, hb2⟩ : ∃ b2, b2 = (s[2]'i2).toNat := ⟨_, rfl⟩
  obtain ⟨b3, hb3⟩ : ∃ b3, b3 = (s[3]'i3).toNat := ⟨_, rfl⟩
  have hbb0 : b0 < 256 := by rw [hb0]; exact (s[0]'i0).toNat_lt
  have hbb1 : b1 < 256 := by rw [hb1]; exact (s[1]'i1).toNat_lt
  have hbb2 : b2 < 256 := by rw [hb2]; exact (s[2]'i2).toNat_lt
  have hbb3 : b3 < 256 := by rw [hb3]; exact (s[3]'i3).toNat_lt
  have hr0 : (s[0]'i0).toNat = b0 := hb0.symm
  have hr1 : (s[1]'i1).toNat = b1 := hb1.symm
  have hr2 : (s[2]'i2).toNat = b2 := hb2.symm
  have hr3 : (s[3]'i3).toNat = b3 := hb3.symm
  rw [hr0, hr1, hr2, hr3] at hn
  clear hb0 hb1 hb2 hb3
  obtain ⟨n, hnn⟩ : ∃ n, n = le4 s.data.toList := ⟨_, rfl⟩
  rw [← hnn] at hn
  have hnI : (b0 : Int) + 256 * b1 + 65536 * b2 + 16777216 * b3 = (n : Int) := by omega
  have HnI := Lib.hid hnI
  have Hn := Lib.hid hnn
  clear hn hnI hnn
  go_enter Try.func19, Try.ntmps19
  go_wp2_with fail
  go_quiet (fail)
  rw [HnI.out]
  clear HnI hr0 hr1 hr2 hr3 hbb0 hbb1 hbb2 hbb3 i0 i1 i2 i3 j1 j2 j3
  by_cases hA : 65536 < n
  · have hwn : wholeL s.data.toList = none := wholeL_great s h (by rw [← Hn.out]; omega)
    have Hwn := Lib.hid hwn
    clear hwn
    have h1 : decide ((65536 : Int) < (n : Int)) = true := by simp; omega
    go_wp2_with fail
    go_ret2
    refine ⟨below_drewN (Below.refl _ _) _, ?_⟩
    rw [Hwn.out]
    exact ⟨_, rfl⟩
  · have h1 : decide ((65536 : Int) < (n : Int)) = false := by simp; omega
    by_cases hB : s.size < n + 8
    · have hwn : wholeL s.data.toList = none := wholeL_great s h (by rw [← Hn.out]; omega)
      have Hwn := Lib.hid hwn
      clear hwn
      have h2 : decide ((s.size : Int) - 8 < (n : Int)) = true := by simp; omega
      go_wp2_with fail
      go_ret2
      refine ⟨below_drewN (Below.refl _ _) _, ?_⟩
      rw [Hwn.out]
      exact ⟨_, rfl⟩
    · have h2 : decide ((s.size : Int) - 8 < (n : Int)) = false := by simp; omega
      have hwe := wholeL_fits s n h Hn.out (by omega) (by omega)
      have hbq := word_beq s (crc (s.extract 8 (8 + n)).data.toList) h (crc_lt _)
      have hc13 : ∀ w1, Below w.heap.size w w1 → Calls Try.prog 13 #[.string (s.extract 8 (8 + n))] w1 fun e w' => e = .returned (.int .u32 (crc (s.extract 8 (8 + n)).data.toList : Nat)) ∧ Below w.heap.size w w' := fun w1 hB => (refCheck_any (s.extract 8 (8 + n)) w1 (by rw [ByteArray.size_extract]; omega)).mono fun e w' ⟨h1, h2⟩ => ⟨h1, h2 ▸ hB⟩
      have hw20 : ∀ w1, Below w.heap.size w w1 → Calls Try.prog 20 #[.int .u32 (crc (s.extract 8 (8 + n)).data.toList : Nat)] w1 fun e w' => e = .returned (.string (mkB (wordL (crc (s.extract 8 (8 + n)).data.toList)))) ∧ Below w.heap.size w w' := fun w1 hB => (word_any _ (crc_lt _) w1).mono fun e w' ⟨h1, h2⟩ => ⟨h1, hB.trans (h2.mono hB.size)⟩
      generalize crc (s.extract 8 (8 + n)).data.toList = c at *
      generalize mkB (wordL c) = wd at *
      have Hwe := Lib.hid hwe
      have Hbq := Lib.hid hbq
      have Hc13 := Lib.hid hc13
      have Hw20 := Lib.hid hw20
      have hB0 := below_drewN (Below.refl w.heap.size w) nq
      clear hwe hbq hc13 hw20
      go_wp2_with fail
      refine wp_region_class (fun w' => Below w.heap.size w w') (by kernel_rfl) (by kernel_rfl) hB0.drew ?_
      clear hB0
      repeat (go_big_quiet_step (first | (intro _; rfl) | (intro hq; exact Hc13.out _ hq) | (intro hq; exact Hw20.out _ hq)))
      refine wpQuiet_nil ?_
      intro wq hBq
      rw [Hbq.out]
      go_wp2_with fail
      go_ret2
      refine ⟨hBq, ?_⟩
      rw [Hwe.out]
      by_cases hc : c = le4 (s.data.toList.drop 4)
      · rw [if_pos hc, decide_eq_true hc]; rfl
      · rw [if_neg hc, decide_eq_false hc]; exact ⟨_, rfl⟩
end Go.Proofs.Ytcbddkncaeancaa
