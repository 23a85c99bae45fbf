/- Walks: the document's words and records. -/
import Derived.Test.YtcbddkncaeancaaWb
import Derived.Lib.SlBytesRow
namespace Go.Proofs.Ytcbddkncaeancaa
set_option linter.unusedVariables false
open Go.ChangeShapes Go.WideShapes Go.ChangeAt Go.RowKit

def headI (x k : Nat) : List Int := (List.range k).map fun j => ((x / 256 ^ j % 256 : Nat) : Int)
theorem headI_succ (x k : Nat) : headI x (k + 1) = headI x k ++ [((x / 256 ^ k % 256 : Nat) : Int)] := by simp [headI, List.range_succ]
theorem headI_len (x k : Nat) : (headI x k).length = k := by simp [headI]
theorem headI_all (x : Nat) : strOfNums (headI x 4) = mkB (wordL x) := by rfl
theorem nums_append (a b : List Int) : strOfNums a ++ strOfNums b = strOfNums (a ++ b) := by
  apply ByteArray.ext
  apply Array.toList_inj.1
  simp [strOfNums]

set_option maxHeartbeats 400000 in
theorem word_any (x : Nat) (hx : x < 4294967296) (w : World) :
    Calls Try.prog 20 #[.int .u32 x] w fun e w' => e = .returned (.string (mkB (wordL x))) ∧ Below w.heap.size w w' := by
  go_enter Try.func20, Try.ntmps20
  go_wp2
  go_loopw [0, 3, 4] (fun xv s i wr => ∃ k : Nat, k ≤ 4 ∧ i = .int .i64 k ∧ xv = .int .u32 ((x / 256 ^ k : Nat) : Int) ∧ s = .string (strOfNums (headI x k)) ∧ Below w.heap.size w wr) (fun _ _ i _ => 4 - (intOf i).toNat)
  case atStart => exact ⟨0, by omega, rfl, by simp, rfl, Below.refl _ _⟩
  case round =>
    obtain ⟨k, hk, rfl, rfl, rfl, hB⟩ := hrel
    by_cases hlt : k < 4
    · obtain ⟨q, hq⟩ : ∃ q, q = x / 256 ^ k := ⟨_, rfl⟩
      have hqx : q ≤ x := by rw [hq]; exact Nat.div_le_self _ _
      rw [← hq]
      have Hq := Lib.hid hq
      clear hq
      obtain ⟨t, ht⟩ : ∃ t, t = strOfNums (headI x k) := ⟨_, rfl⟩
      have hts : t.size ≤ 4 := by rw [ht, strOfNums_size, headI_len]; omega
      rw [← ht]
      have Ht := Lib.hid ht
      clear ht
      obtain ⟨c, hc⟩ : ∃ c, c = strOfNums [(q : Int) % 256] := ⟨_, rfl⟩
      have hcs : c.size ≤ 1 := by rw [hc, strOfNums_size]; simp
      have hcv : (convert 22 9 (.slice (some ⟨wr.heap.size, 0, none⟩) 1 1)).run Try.prog (wr.alloc (.cells #[.int .u8 ((q : Int) % 256)] 5)) = .ok (.string c) (wr.alloc (.cells #[.int .u8 ((q : Int) % 256)] 5)) := by
        rw [hc]
        exact run_convert_bytes_arg _ 22 5 Try.underlying22 Try.underlying5 _ 0 1 1 [(q : Int) % 256] rfl (fun i hi => by
          obtain rfl : i = 0 := by omega
          rw [Nat.add_zero, World.cell?_alloc_at _ _ _ _ rfl]; rfl) 9 Try.underlying9
      have Hc := Lib.hid hc
      clear hc
      go_wp2
      refine ⟨⟨k + 1, by omega, by go_num, ?_, ?_, hB.alloc hB.size _⟩, by simp [intOf]; omega⟩
      · rw [Nat.pow_succ, ← Nat.div_div_eq_div_mul, ← Hq.out]; go_num
      · rw [Hc.out, Ht.out, Hq.out, headI_succ, nums_append]; rfl
    · obtain rfl : k = 4 := by omega
      rw [headI_all]
      go_wp2
      go_ret
      exact ⟨rfl, hB⟩

theorem crc_lt' (s : ByteArray) : crc s.data.toList < 4294967296 := crc_lt _
theorem word_size (x : Nat) : (mkB (wordL x)).size = 4 := rfl

set_option maxHeartbeats 400000 in
theorem bytes_any (s : ByteArray) (w : World) (hs : s.size < 4294967296) :
    Calls Try.prog 14 #[.string s] w fun e w' => e = .returned (.string (mkB (recL s))) ∧ Below w.heap.size w w' := by
  have hr : mkB (wordL s.size) ++ mkB (wordL (crc s.data.toList)) ++ s = mkB (recL s) := by
    rw [mkB_append, mkB_append, mkB_toList]; rfl
  have hc := crc_lt' s
  have hc13 := fun w1 => refCheck_any s w1 (by omega)
  have z1 := word_size s.size
  have z2 := word_size (crc s.data.toList)
  have ha1 := fun w1 => word_any s.size hs w1
  have ha2 := fun w1 => word_any (crc s.data.toList) hc w1
  generalize crc s.data.toList = c at *
  generalize mkB (wordL s.size) = a at *
  generalize mkB (wordL c) = b at *
  generalize mkB (recL s) = r at *
  have Hr := Lib.hid hr
  have Ha1 := Lib.hid ha1
  have Ha2 := Lib.hid ha2
  have Hc := Lib.hid hc13
  have hab : (a ++ b).size = 8 := by rw [ByteArray.size_append]; omega
  clear hr ha1 ha2 hc13
  go_enter Try.func14, Try.ntmps14
  go_wp2_with fail
  refine (Ha1.out _).mono ?_
  rintro e w1 ⟨rfl, hB1⟩
  go_wp2_with fail
  refine (Hc.out _).mono ?_
  rintro e w2 ⟨rfl, rfl⟩
  go_wp2_with fail
  refine (Ha2.out _).mono ?_
  rintro e w2 ⟨rfl, hB2⟩
  go_wp2_with fail
  go_ret
  exact ⟨by rw [Hr.out]; rfl, hB1.trans (hB2.mono hB1.size)⟩
end Go.Proofs.Ytcbddkncaeancaa
