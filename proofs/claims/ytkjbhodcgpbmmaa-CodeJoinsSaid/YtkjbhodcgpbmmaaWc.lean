/- Walks: the document's number, a part, two lists held against each other. -/
import Derived.Test.YtkjbhodcgpbmmaaWb
import Derived.Test.YtkjbhodcgpbmmaaMb
namespace Go.Proofs.Ytkjbhodcgpbmmaa
open Go.ChangeShapes Go.WideShapes Go.ChangeAt Go.RowKit

def tailI (x k : Nat) : List Int := (List.range k).reverse.map fun j => ((x / 256 ^ j % 256 : Nat) : Int)
theorem tailI_succ (x k : Nat) : tailI x (k + 1) = ((x / 256 ^ k % 256 : Nat) : Int) :: tailI x k := by simp [tailI, List.range_succ]
theorem tailI_all (x : Nat) : tailI x 8 = numI x := by rfl
theorem tailI_len (x k : Nat) : (tailI x k).length = k := by simp [tailI]

theorem nums_append (a b : List Int) : strOfNums a ++ strOfNums b = strOfNums (a ++ b) := by
  apply ByteArray.ext
  apply Array.toList_inj.1
  simp [strOfNums]

set_option maxHeartbeats 400000 in
theorem refNum_any (n : Int) (w : World) :
    Calls Try.prog 13 #[.int .i64 n] w fun e w' => e = .returned (.string (numB (n % 18446744073709551616).toNat)) ∧ Below w.heap.size w w' := by
  obtain ⟨x, hx⟩ : ∃ x, x = (n % 18446744073709551616).toNat := ⟨_, rfl⟩
  have hw : IntKind.u64.wrap n = (x : Int) := by rw [wrap_u64_nat, hx]
  have hx2 : x < 18446744073709551616 := by omega
  rw [← hx]
  clear hx
  go_enter Try.func13, Try.ntmps13
  go_wp2
  go_loopw [3, 4, 5] (fun xv s i wr => ∃ k : Nat, k ≤ 8 ∧ i = .int .i64 k ∧ xv = .int .u64 ((x / 256 ^ k : Nat) : Int) ∧ s = .string (strOfNums (tailI x k)) ∧ Below w.heap.size w wr) (fun _ _ i _ => 8 - (intOf i).toNat)
  case atStart => exact ⟨0, by omega, rfl, by simp, rfl, Below.refl _ _⟩
  case round =>
    obtain ⟨k, hk, rfl, rfl, rfl, hB⟩ := hrel
    by_cases hlt : k < 8
    · obtain ⟨q, hq⟩ : ∃ q, q = x / 256 ^ k := ⟨_, rfl⟩
      rw [← hq]
      have Hq := Lib.hid hq
      clear hq
      obtain ⟨t, ht⟩ : ∃ t, t = strOfNums (tailI x k) := ⟨_, rfl⟩
      have hts : t.size ≤ 8 := by rw [ht, strOfNums_size, tailI_len]; omega
      rw [← ht]
      have Ht := Lib.hid ht
      clear ht
      obtain ⟨c, hc⟩ : ∃ c, c = strOfNums [(q : Int) % 256] := ⟨_, rfl⟩
      have hcs : c.size ≤ 1 := by rw [hc, strOfNums_size]; simp
      have hcv : (convert 39 9 (.slice (some ⟨wr.heap.size, 0, none⟩) 1 1)).run Try.prog (wr.alloc (.cells #[.int .u8 ((q : Int) % 256)] 5)) = .ok (.string c) (wr.alloc (.cells #[.int .u8 ((q : Int) % 256)] 5)) := by
        rw [hc]
        exact run_convert_bytes_arg _ 39 5 Try.underlying39 Try.underlying5 _ 0 1 1 [(q : Int) % 256] rfl (fun i hi => by
          obtain rfl : i = 0 := by omega
          rw [Nat.add_zero, World.cell?_alloc_at _ _ _ _ rfl]; rfl) 9 Try.underlying9
      have Hc := Lib.hid hc
      clear hc
      go_wp2
      refine ⟨⟨k + 1, by omega, by go_num, ?_, ?_, hB.alloc hB.size _⟩, by simp [intOf]; omega⟩
      · have hq2 : q ≤ x := by rw [Hq.out]; exact Nat.div_le_self _ _
        rw [Nat.pow_succ, ← Nat.div_div_eq_div_mul, ← Hq.out, show (q : Int) / 256 = ((q / 256 : Nat) : Int) by omega, wrap_u64_small _ (by omega)]
      · rw [Hc.out, Ht.out, Hq.out, tailI_succ, nums_append]; rfl
    · obtain rfl : k = 8 := by omega
      go_wp2
      go_ret
      exact ⟨rfl, hB⟩

set_option maxHeartbeats 400000 in
theorem cut_short (s : ByteArray) (w : World) (h : s.size < 8) :
    Calls Try.prog 22 #[.string s] w fun e w' => e = .returned (.tuple #[.string ⟨#[]⟩, .string ⟨#[]⟩, .bool false]) ∧ w = w' := by
  go_enter Try.func22, Try.ntmps22
  go_wp2_with fail
  refine (readNum_short s _ h).mono ?_
  rintro e w' ⟨rfl, rfl⟩
  go_wp2
  go_ret3
  exact ⟨rfl, rfl⟩

set_option maxHeartbeats 400000 in
theorem cut_no (s : ByteArray) (w : World) (h : 8 ≤ s.size) (hs : s.size ≤ 1099511627776) (hn : s.size < len8 s + 8) :
    Calls Try.prog 22 #[.string s] w fun e w' => e = .returned (.tuple #[.string ⟨#[]⟩, .string ⟨#[]⟩, .bool false]) ∧ w = w' := by
  have hlt : len8 s < 18446744073709551616 := by have := be_take_lt s 8; unfold len8; omega
  have hm : wrap64 (len8 s) < 0 ∨ (s.size : Int) - 8 < wrap64 (len8 s) := by
    by_cases hb : len8 s < 9223372036854775808
    · rw [IntWalk.wrap64_in _ ⟨by omega, by omega⟩]; omega
    · unfold wrap64; omega
  go_enter Try.func22, Try.ntmps22
  go_wp2_with fail
  refine (readNum_long s _ h (by omega)).mono ?_
  rintro e w' ⟨rfl, rfl⟩
  rw [show be (s.data.toList.take 8) = len8 s from rfl]
  clear hn hlt
  generalize wrap64 (len8 s : Int) = n at *
  by_cases h0 : n < 0
  · have h1 : decide (n < 0) = true := by simpa using h0
    clear hm h0
    go_wp2
    go_ret3
    exact ⟨rfl, rfl⟩
  · have h1 : decide (n < 0) = false := by simpa using h0
    have h2 : decide ((s.size : Int) - 8 < n) = true := by simp; omega
    clear hm h0
    go_wp2
    go_ret3
    exact ⟨rfl, rfl⟩

set_option maxHeartbeats 400000 in
theorem cut_yes (s : ByteArray) (w : World) (n : Nat) (h : 8 ≤ s.size) (hs : s.size ≤ 1099511627776) (hn : len8 s = n) (hl : n + 8 ≤ s.size) :
    Calls Try.prog 22 #[.string s] w fun e w' => e = .returned (.tuple #[.string (s.extract 8 (8 + n)), .string (s.extract (8 + n) s.size), .bool true]) ∧ ∃ k, w' = w.drewN k := by
  have hw : wrap64 (n : Int) = n := IntWalk.wrap64_in _ ⟨by omega, by omega⟩
  have hr := readNum_long s w h (by omega)
  rw [show be (s.data.toList.take 8) = n from hn, hw] at hr
  have Hr := Lib.hid hr
  clear hr hw hn
  go_enter Try.func22, Try.ntmps22
  go_wp2_with fail
  refine Hr.out.mono ?_
  rintro e w' ⟨rfl, rfl⟩
  have h1 : decide ((n : Int) < 0) = false := by simp
  have h2 : decide ((s.size : Int) - 8 < n) = false := by simp; omega
  go_wp2
  go_quiet (fail)
  go_wp2
  go_ret3
  exact ⟨rfl, _, rfl⟩
end Go.Proofs.Ytkjbhodcgpbmmaa
