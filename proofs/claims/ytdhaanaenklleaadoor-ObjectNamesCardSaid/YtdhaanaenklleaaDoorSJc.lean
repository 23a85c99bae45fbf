/- Walks: the document's number, a part, two lists held against each other. -/
import Derived.Test.YtdhaanaenklleaaDoorSJb
namespace Go.Proofs.YtdhaanaenklleaaDoor.S
open Go.ChangeShapes Go.WideShapes Go.ChangeAt Go.RowKit
def tailI (x k : Nat) : List Int := (List.range k).reverse.map fun j => ((x / 256 ^ j % 256 : Nat) : Int)
theorem tailI_succ (x k : Nat) : tailI x (k + 1) = ((x / 256 ^ k % 256 : Nat) : Int) :: tailI x k := by simp [tailI, List.range_succ]
theorem tailI_all (x : Nat) : tailI x 8 = numI x := by rfl
theorem tailI_len (x k : Nat) : (tailI x k).length = k := by simp [tailI]

theorem nums_append (a b : List Int) : strOfNums a ++ strOfNums b = strOfNums (a ++ b) := by
  apply ByteArray.ext
  apply Array.toList_inj.1
  simp [strOfNums]

set_option maxRecDepth 100000 in
set_option maxHeartbeats 400000 in
theorem refNum_any (n : Int) (w : World) :
    Calls Tryd.prog 81 #[.int .i64 n] w fun e w' => e = .returned (.string (numB (n % 18446744073709551616).toNat)) ∧ Below w.heap.size w w' := by
  obtain ⟨x, hx⟩ : ∃ x, x = (n % 18446744073709551616).toNat := ⟨_, rfl⟩
  have hw : IntKind.u64.wrap n = (x : Int) := by rw [wrap_u64_nat, hx]
  have hx2 : x < 18446744073709551616 := by omega
  rw [← hx]
  clear hx
  go_enter Tryd.func81, Tryd.ntmps81
  go_wp2
  go_loopw [3, 4, 5] (fun xv s i wr => ∃ k : Nat, k ≤ 8 ∧ i = .int .i64 k ∧ xv = .int .u64 ((x / 256 ^ k : Nat) : Int) ∧ s = .string (strOfNums (tailI x k)) ∧ Below w.heap.size w wr) (fun _ _ i _ => 8 - (intOf i).toNat)
  case atStart => exact ⟨0, by omega, rfl, by simp, rfl, Below.refl _ _⟩
  case round =>
    obtain ⟨k, hk, rfl, rfl, rfl, hB⟩ := hrel
    by_cases hlt : k < 8
    · obtain ⟨q, hq⟩ : ∃ q, q = x / 256 ^ k := ⟨_, rfl⟩
      rw [← hq]
      have Hq := Lib.hid hq
      clear hq
      obtain ⟨t, ht⟩ : ∃ t, t = strOfNums (tailI x k) := ⟨_, rfl⟩
      have hts : t.size ≤ 8 := by rw [ht, strOfNums_size, tailI_len]; omega
      rw [← ht]
      have Ht := Lib.hid ht
      clear ht
      obtain ⟨c, hc⟩ : ∃ c, c = strOfNums [(q : Int) % 256] := ⟨_, rfl⟩
      have hcs : c.size ≤ 1 := by rw [hc, strOfNums_size]; simp
      have hcv : (convert 59 9 (.slice (some ⟨wr.heap.size, 0, none⟩) 1 1)).run Tryd.prog (wr.alloc (.cells #[.int .u8 ((q : Int) % 256)] 5)) = .ok (.string c) (wr.alloc (.cells #[.int .u8 ((q : Int) % 256)] 5)) := by
        rw [hc]
        exact run_convert_bytes_arg _ 59 5 Tryd.underlying59 Tryd.underlying5 _ 0 1 1 [(q : Int) % 256] rfl (fun i hi => by
          obtain rfl : i = 0 := by omega
          rw [Nat.add_zero, World.cell?_alloc_at _ _ _ _ rfl]; rfl) 9 Tryd.underlying9
      have Hc := Lib.hid hc
      clear hc
      go_wp2
      refine ⟨⟨k + 1, by omega, by go_num, ?_, ?_, hB.alloc hB.size _⟩, by simp [intOf]; omega⟩
      · have hq2 : q ≤ x := by rw [Hq.out]; exact Nat.div_le_self _ _
        rw [Nat.pow_succ, ← Nat.div_div_eq_div_mul, ← Hq.out, show (q : Int) / 256 = ((q / 256 : Nat) : Int) by omega, wrap_u64_small _ (by omega)]
      · rw [Hc.out, Ht.out, Hq.out, tailI_succ, nums_append]; rfl
    · obtain rfl : k = 8 := by omega
      go_wp2
      go_ret
      exact ⟨rfl, hB⟩


end Go.Proofs.YtdhaanaenklleaaDoor.S
