/- Walks: a number's bytes. -/
import Derived.Test.YtdhaanaenklleaaDoorSJa
import Derived.Test.YtdhaanaenklleaaDoorSWa
import Derived.Test.YtdhaanaenklleaaDoorKt
import Derived.Lib.SlBytesRow
namespace Go.Proofs.YtdhaanaenklleaaDoor.S
set_option linter.unusedVariables false
open Go.ChangeShapes Go.WideShapes Go.ChangeAt Go.RowKit

def dig (x k i : Nat) : Value := Value.int .u8 (if i < k then ((x / 256 ^ (7 - i) % 256 : Nat) : Int) else 0)
def numCells (x k : Nat) : Array Value := #[dig x k 0, dig x k 1, dig x k 2, dig x k 3, dig x k 4, dig x k 5, dig x k 6, dig x k 7]
def numI (x : Nat) : List Int := [7, 6, 5, 4, 3, 2, 1, 0].map fun j => ((x / 256 ^ j % 256 : Nat) : Int)
def numB (x : Nat) : ByteArray := strOfNums (numI x)

theorem numCells_get (x k : Nat) (hk : k < 8) : (numCells x k)[k]? = some (.int .u8 0) := by
  rcases (by omega : k = 0 ∨ k = 1 ∨ k = 2 ∨ k = 3 ∨ k = 4 ∨ k = 5 ∨ k = 6 ∨ k = 7) with h | h | h | h | h | h | h | h <;> subst h <;> simp [numCells, dig]

theorem numCells_set (x k : Nat) (hk : k < 8) : (numCells x k).setIfInBounds k (.int .u8 ((x / 256 ^ (7 - k) % 256 : Nat) : Int)) = numCells x (k + 1) := by
  rcases (by omega : k = 0 ∨ k = 1 ∨ k = 2 ∨ k = 3 ∨ k = 4 ∨ k = 5 ∨ k = 6 ∨ k = 7) with h | h | h | h | h | h | h | h <;> subst h <;> simp [numCells, dig]

theorem numCells_all (x i : Nat) (hi : i < 8) : (numCells x 8)[i]? = some (.int .u8 ((numI x).getD i 0)) := by
  rcases (by omega : i = 0 ∨ i = 1 ∨ i = 2 ∨ i = 3 ∨ i = 4 ∨ i = 5 ∨ i = 6 ∨ i = 7) with h | h | h | h | h | h | h | h <;> subst h <;> simp [numCells, dig, numI]

theorem wrap_u64_nat (n : Int) : IntKind.u64.wrap n = ((n % 18446744073709551616).toNat : Int) := by
  have : IntKind.u64.wrap n = n % 18446744073709551616 := by simp [IntKind.wrap, IntKind.bits, IntKind.signed]
  rw [this]; omega

theorem shr_pow (n : Int) (k : Nat) (hk : k < 8) : IntKind.u64.wrap n / 2 ^ (8 * (7 - k)) % 256 = (((n % 18446744073709551616).toNat / 256 ^ (7 - k) % 256 : Nat) : Int) := by
  rw [wrap_u64_nat]
  have : (2 : Int) ^ (8 * (7 - k)) = ((256 ^ (7 - k) : Nat) : Int) := by
    rw [Nat.pow_mul 2 8 (7-k) |> fun h => (by rw [show (256:Nat) = 2^8 from rfl, ← h] : (256:Nat)^(7-k) = 2^(8*(7-k)))]
    simp
  rw [this]
  omega

set_option maxRecDepth 100000 in
set_option maxHeartbeats 400000 in
theorem num_any (n : Int) (w : World) :
    Calls Tryd.prog 75 #[.int .i64 n] w fun e w' => e = .returned (.string (numB (n % 18446744073709551616).toNat)) ∧ Below w.heap.size w w' := by
  obtain ⟨x, hx⟩ : ∃ x, x = (n % 18446744073709551616).toNat := ⟨_, rfl⟩
  rw [← hx]
  have Hx := Lib.hid hx
  clear hx
  have hconv : ∀ (wr : World), wr.heap[w.heap.size]? = some (.cells (numCells x 8) 149 (0, 0)) → (convert 59 9 (.slice (some ⟨w.heap.size, 0, none⟩) 8 8)).run Tryd.prog wr = .ok (.string (numB x)) wr := fun wr hb =>
    run_convert_bytes_arg wr 59 5 Tryd.underlying59 Tryd.underlying5 _ 0 8 8 (numI x) (by simp [numI]) (fun i hi => by rw [block_cell hb, Nat.zero_add, numCells_all x i hi]) 9 Tryd.underlying9
  go_enter Tryd.func75, Tryd.ntmps75
  go_wp2
  go_loopw [4, 5] (fun _ i wr => ∃ k : Nat, k ≤ 8 ∧ i = .int .i64 k ∧ wr.heap[w.heap.size]? = some (.cells (numCells x k) 149 (0, 0)) ∧ Below w.heap.size w wr) (fun _ i _ => 8 - (intOf i).toNat)
  case atStart => exact ⟨0, by omega, rfl, heap_alloc_new w _, (Below.refl _ _).alloc (Nat.le_refl _) _⟩
  case round =>
    obtain ⟨k, hk, rfl, hb, hB⟩ := hrel
    by_cases hlt : k < 8
    · have hcell : wr.cell? ⟨w.heap.size, k, none⟩ = some (.int .u8 0) := by rw [block_cell hb, numCells_get x k hlt]
      have hfz : wr.frozen? ⟨w.heap.size, k, none⟩ = false := block_free hb k
      have HB := Lib.hid hb
      clear hb
      go_wp2
      refine ⟨⟨k + 1, by omega, by go_num, ?_, hB.setCell (Nat.le_refl _) _⟩, by simp [intOf]; omega⟩
      rw [block_set HB.out, shr_pow n k hlt, ← Hx.out, numCells_set x k hlt]
    · obtain rfl : k = 8 := by omega
      have hcv := hconv wr hb
      clear hconv hb
      go_wp2
      go_ret
      exact ⟨rfl, hB⟩
end Go.Proofs.YtdhaanaenklleaaDoor.S
