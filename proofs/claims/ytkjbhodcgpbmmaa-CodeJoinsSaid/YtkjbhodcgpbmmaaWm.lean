/- Walks: the statement CodeLong. -/
import Derived.Test.YtkjbhodcgpbmmaaWl
namespace Go.Proofs.Ytkjbhodcgpbmmaa
open Go.ChangeShapes Go.WideShapes Go.ChangeAt Go.RowKit

theorem Try.info5 : (Try.prog.info? 5).map (fun i => (i.zero, i.size, i.bytes)) = some (some (.int .u8 0), 1, 1) := by kernel_rfl

/-- A text of noughts. -/
def zeros (n : Nat) : ByteArray := strOfNums (List.replicate n 0)
theorem zeros_size (n : Nat) : (zeros n).size = n := by rw [zeros, strOfNums_size, List.length_replicate]

theorem conv_zeros (w wr : World) (n : Nat) (h : wr.ownsRow w.heap.size 5 1 (.slice (some ⟨w.heap.size, 0, none⟩) n n) n (madeCells (Value.int .u8 0).cells (n * 1)).toList) :
    (convert 39 9 (.slice (some ⟨w.heap.size, 0, none⟩) n n)).run Try.prog wr = .ok (.string (zeros n)) wr := by
  refine run_convert_bytes_arg wr 39 5 Try.underlying39 Try.underlying5 _ 0 n n (List.replicate n 0) (by simp) (fun i hi => ?_) 9 Try.underlying9
  rw [show (Value.int IntKind.u8 0).cells = #[Value.int IntKind.u8 0] from rfl, toList_madeCells_one] at h
  have hc := h.cells (g := w.heap.size) rfl i (.int .u8 0) (by rw [List.getElem?_replicate]; simp; omega)
  have e : (⟨w.heap.size, 0, none⟩ : Addr).add i = ⟨w.heap.size, 0 + i, none⟩ := by unfold Addr.add; split <;> simp_all
  rw [e] at hc
  rw [hc]
  simp [List.getD, hi]

set_option maxHeartbeats 400000 in
theorem long_far (m : Int) (w : World) (h : m < -3 ∨ 3 < m) : Calls Try.prog 7 #[.int .i64 m] w (LawEnd w) := by
  rcases h with h | h
  · have h1 : decide (m < -3) = true := by simpa using h
    go_enter Try.func7, Try.ntmps7
    go_wp2_with fail
    refine (alive_any _).mono ?_
    rintro e w1 ⟨rfl, hB1⟩
    go_wp2_with fail
    go_ret
    exact ⟨rfl, hB1⟩
  · have h1 : decide (m < -3) = false := by simp; omega
    have h2 : decide (3 < m) = true := by simpa using h
    go_enter Try.func7, Try.ntmps7
    go_wp2_with fail
    refine (alive_any _).mono ?_
    rintro e w1 ⟨rfl, hB1⟩
    go_wp2_with fail
    go_ret
    exact ⟨rfl, hB1⟩

set_option maxHeartbeats 400000 in
theorem long_near (m : Int) (w : World) (hl : -3 ≤ m) (hh : m ≤ 3) : Calls Try.prog 7 #[.int .i64 m] w (LawEnd w) := by
  obtain ⟨n, hn⟩ : ∃ n : Nat, 1048560 + m = (n : Int) := ⟨(1048560 + m).toNat, by omega⟩
  obtain ⟨i0, hi, hz0, hz1, hz2⟩ := info_parts Try.info5
  have h1 : decide (m < -3) = false := by simp; omega
  have h2 : decide (3 < m) = false := by simp; omega
  have hsz := joinB_size [zeros n]
  have hn9 : n ≤ 1048563 := by omega
  have hjs : (joinB [zeros n]).size = n + 16 := by rw [hsz]; simp [total, zeros_size]; omega
  have hsp := split_join [zeros n] (by simp) (fun p hp => by simp at hp; rw [hp, zeros_size]; omega)
  have hjoin : ∀ w1 x, Strs w1 x [zeros n] → Calls Try.prog 14 #[x] w1 fun e w' => e = .returned (.string (joinB [zeros n])) ∧ Below w1.heap.size w1 w' := fun w1 x hx => join_any x _ w1 hx (by simp [total, zeros_size]; omega) (by simp)
  have hzs := zeros_size n
  have hconv := fun w wr => conv_zeros w wr n
  generalize joinB [zeros n] = j at *
  have hjle : j.size ≤ 1048579 := by omega
  have Hjoin := Lib.hid hjoin
  have Hsp := Lib.hid hsp
  have Hjs := Lib.hid hjs
  have Hn := Lib.hid hn
  have Hzs := Lib.hid hzs
  have Hconv := Lib.hid hconv
  clear hjoin hsp hjs hsz hzs hconv hn
  go_enter Try.func7, Try.ntmps7
  go_wp2_with fail
  refine (alive_any _).mono ?_
  rintro e w1 ⟨rfl, hB1⟩
  go_wp2_with (at_make; go_must (refine wpList_make_full _ rfl _ _ 39 rfl w1.heap.size 5 i0 (.int .u8 0) 1 Try.underlying39 hi hz0 hz1 .i64 .i64 _ _ n rfl rfl (by have := Hn.out; omega) (by have := Hn.out; omega) (by rw [hz2]; omega) (by unfold maxLen; omega) (Nat.le_refl _) ?_); intro w2 hown hgrow; have hcv := Hconv.out w1 w2 hown)
  refine (Hjoin.out _ _ (Strs.one w2 (zeros n))).mono ?_
  rintro e w3 ⟨rfl, hB3⟩
  have hB03 := ((hB1.grown hgrow hB1.size (fun k h => by cases h)).alloc (by have := hgrow.size; have := hB1.size; omega) _).trans (hB3.mono (by have := hgrow.size; have := hB1.size; simp; omega))
  clear hB1 hB3 hcv hown hgrow
  by_cases hm : 0 < m
  · have hmd : decide (0 < m) = true := by simpa using hm
    have hlong : 1048576 < j.size := by have := Hn.out; have := Hjs.out; omega
    clear h1 h2
    go_wp2_with fail
    refine (split_long j _ hlong (by omega)).mono ?_
    rintro e w4 ⟨rfl, rfl⟩
    go_wp2_with fail
    go_ret
    exact ⟨rfl, hB03⟩
  · have hmd : decide (0 < m) = false := by simp; omega
    have hle : j.size ≤ 1048576 := by have := Hn.out; have := Hjs.out; omega
    clear h1 h2
    go_wp2_with fail
    refine (split_any j _ hle).mono ?_
    rintro e w4 ⟨hB4, hr⟩
    rw [Hsp.out] at hr
    obtain ⟨v, rfl, hv⟩ := hr
    obtain ⟨b, off, cap, rfl, hcap, hmax, hb, hcell⟩ := hv.one_cell
    have hB04 := hB03.trans (hB4.mono hB03.size)
    have hz : (zeros n).size = n := Hzs.out
    have hq : ((((zeros n).size : Nat) : Int) == 1048560 + m) = true := by rw [Hzs.out]; simp; exact Hn.out.symm
    unfold maxLen at hmax
    clear hB03 hB4 hv hz
    go_wp2_with fail
    go_ret
    exact ⟨rfl, hB04⟩

theorem long_walk (m : Int) (w : World) : Calls Try.prog 7 #[.int .i64 m] w (LawEnd w) := by
  by_cases h : m < -3 ∨ 3 < m
  · exact long_far m w h
  · exact long_near m w (by omega) (by omega)
end Go.Proofs.Ytkjbhodcgpbmmaa
