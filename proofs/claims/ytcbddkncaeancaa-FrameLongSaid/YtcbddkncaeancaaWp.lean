/- Walks: the statement FrameLong. -/
import Derived.Test.YtcbddkncaeancaaWo
namespace Go.Proofs.Ytcbddkncaeancaa
set_option linter.unusedVariables false
open Go.ChangeShapes Go.WideShapes Go.ChangeAt Go.RowKit

theorem long_none (i : Int) (w : World) (h : i < -2 ∨ 2 < i) : Calls Try.prog 8 #[.int .i64 i] w (LawEnd w) := by
  cases h1 : decide (i < -2) with
  | true =>
    clear h
    go_enter Try.func8, Try.ntmps8
    go_wp2_with fail
    refine (alive_any _).mono ?_
    rintro e w1 ⟨rfl, hB1⟩
    go_wp2_with fail
    go_ret
    exact ⟨rfl, hB1⟩
  | false =>
    have h2 : decide (2 < i) = true := by simp at h1; simp; omega
    clear h
    go_enter Try.func8, Try.ntmps8
    go_wp2_with fail
    refine (alive_any _).mono ?_
    rintro e w1 ⟨rfl, hB1⟩
    go_wp2_with fail
    go_ret
    exact ⟨rfl, hB1⟩

def zeros (n : Nat) : ByteArray := mkB (List.replicate n 0)
theorem zeros_size (n : Nat) : (zeros n).size = n := by simp [zeros, mkB_size]

theorem three_strs (w : World) (a b c : ByteArray) (t : TypeId) : Strs (w.alloc (.cells #[.string a, .string b, .string c] t)) (.slice (some ⟨w.heap.size, 0, none⟩) 3 3) [a, b, c] := by
  refine .inr ⟨w.heap.size, 0, 3, rfl, by simp, by unfold maxLen; omega, by simp, fun i hi => ?_⟩
  rw [Nat.zero_add, World.cell?_alloc_at _ _ _ _ rfl]
  simp at hi
  rcases (by omega : i = 0 ∨ i = 1 ∨ i = 2) with rfl | rfl | rfl <;> simp

theorem made_zeros (n : Nat) : (madeCells (Value.int .u8 0).cells (n * 1)).toList = cellsL (List.replicate n 0) := by
  rw [Nat.mul_one, show (Value.int .u8 0).cells = #[.int .u8 0] from rfl, toList_madeCells_one]
  simp [cellsL]
theorem zero_conv {w : World} {base n : Nat} {v : Value} (h : w.ownsRow base 5 1 v n (madeCells (Value.int .u8 0).cells (n * 1)).toList) : (convert 22 9 v).run Try.prog w = .ok (.string (zeros n)) w := by
  rw [made_zeros] at h
  exact byts_conv (BytsA.ofRow (l := List.replicate n 0) (by rw [List.length_replicate]; exact h))
theorem a_size : (⟨#[97]⟩ : ByteArray).size = 1 := rfl
theorem b_size : (⟨#[98]⟩ : ByteArray).size = 1 := rfl
theorem long_over (n : Nat) (h : 65536 < n) : recsL [⟨#[97]⟩, zeros n, ⟨#[98]⟩] = recsL [⟨#[97]⟩, ⟨#[98]⟩] := by
  have := zeros_size n
  simp only [recsL]
  rw [if_pos (c := 65536 < (zeros n).size) (by omega)]
  simp
theorem long_at (n : Nat) (h : n ≤ 65536) : splitL (recsL [⟨#[97]⟩, zeros n, ⟨#[98]⟩]) = ([⟨#[97]⟩, zeros n, ⟨#[98]⟩], (recsL [⟨#[97]⟩, zeros n, ⟨#[98]⟩]).length) := by
  refine split_put _ (fun s hs => ?_)
  have := zeros_size n
  simp at hs
  rcases hs with rfl | rfl | rfl
  · rw [a_size]; omega
  · omega
  · rw [b_size]; omega

set_option maxHeartbeats 400000 in
theorem long_some (i : Int) (n : Nat) (w : World) (h1 : decide (i < -2) = false) (h2 : decide (2 < i) = false) (hn : (65536 : Int) + i = n) : Calls Try.prog 8 #[.int .i64 i] w (LawEnd w) := by
  obtain ⟨i0, hi, hz0, hz1, hz2⟩ := info_parts Try.info5
  have hnb : n ≤ 65538 := by simp at h2; omega
  go_enter Try.func8, Try.ntmps8
  go_wp2_with fail
  refine (alive_any _).mono ?_
  rintro e w1 ⟨rfl, hB1⟩
  have hB1s := hB1.size
  go_wp2_with (at_make; refine wpList_make_full _ rfl _ _ 22 rfl w.heap.size 5 i0 (.int .u8 0) 1 Try.underlying22 hi hz0 hz1 .i64 .i64 _ _ n rfl rfl rfl rfl (by rw [hz2]; omega) (by unfold maxLen; omega) hB1s ?_; intro w2 hown2 hgrow2; have hcv := zero_conv hown2)
  have hB2 : Below w.heap.size w w2 := hB1.grown hgrow2 hB1s (fun k h => by cases h)
  have hB2s := hB2.size
  clear hown2 hgrow2 hcv hB1 hB1s
  have hzs := zeros_size n
  have hp := put_any (.slice none 0 0) _ [] [⟨#[97]⟩, zeros n, ⟨#[98]⟩] (w2.alloc (.cells #[.string ⟨#[97]⟩, .string (zeros n), .string ⟨#[98]⟩] 9)) (.inl ⟨rfl, rfl⟩) (three_strs w2 _ _ _ 9) (by simp only [total, hzs, a_size, b_size, List.length_nil, List.length_cons]; omega)
  rw [List.nil_append] at hp
  have hB3 : Below w.heap.size w (w2.alloc (.cells #[.string ⟨#[97]⟩, .string (zeros n), .string ⟨#[98]⟩] 9)) := hB2.alloc hB2s _
  have hlr := recsL_le [⟨#[97]⟩, zeros n, ⟨#[98]⟩]
  have hrl : (recsL [⟨#[97]⟩, zeros n, ⟨#[98]⟩]).length ≤ 70000 := by
    simp only [total, hzs, a_size, b_size, List.length_nil, List.length_cons] at hlr; omega
  have hover := long_over n
  have hat := long_at n
  generalize zeros n = z at *
  generalize recsL [⟨#[97]⟩, z, ⟨#[98]⟩] = r at *
  have Hover := Lib.hid hover
  have Hat := Lib.hid hat
  have Hzs := Lib.hid hzs
  clear hB2 hB2s hlr hover hat hzs
  refine hp.mono ?_
  clear hp
  rintro e w3 ⟨v3, rfl, hown3, hB33⟩
  have hB03 := hB3.trans (hB33.mono hB3.size)
  have hs3 := split_any v3 _ w3 (BytsA.ofRow hown3).byts (by omega)
  have Hs3 := Lib.hid hs3
  clear hs3 hB33 hB3 hown3
  by_cases hpos : 65536 < n
  · have h3 : decide (0 < i) = true := by simp; omega
    have hs := Hs3.out
    rw [Hover.out hpos, ab_split] at hs
    have Hs := Lib.hid hs
    clear hs Hs3 hpos hn
    go_wp2_with fail
    refine Hs.out.mono ?_
    rintro e w4 ⟨hB4, v4, rfl, hv4⟩
    have hB04 := hB03.trans (hB4.mono hB03.size)
    rcases hv4 with ⟨_, h0⟩ | ⟨b, off, cap, rfl, hcap, hmax, hb, hcell⟩
    · cases h0
    · have hc1 := hcell 1 (by decide)
      simp at hc1
      clear hcell hB4 Hs
      go_wp2_with fail
      go_ret
      exact ⟨rfl, hB04⟩
  · have h3 : decide (0 < i) = false := by simp; omega
    have hs := Hs3.out
    rw [Hat.out (by omega)] at hs
    have Hs := Lib.hid hs
    have hnI : (z.size : Int) = 65536 + i := by have := Hzs.out; omega
    have HnI := Lib.hid hnI
    clear hs Hs3 hpos hnI
    generalize r.length = rl at *
    go_wp2_with fail
    refine Hs.out.mono ?_
    rintro e w4 ⟨hB4, v4, rfl, hv4⟩
    have hB04 := hB03.trans (hB4.mono hB03.size)
    rcases hv4 with ⟨_, h0⟩ | ⟨b, off, cap, rfl, hcap, hmax, hb, hcell⟩
    · cases h0
    · have hc1 := hcell 1 (by simp)
      simp at hc1
      have hzn : z.size = n := Hzs.out
      clear hcell hB4 Hs
      go_wp2_with fail
      go_ret
      exact ⟨rfl, hB04⟩

theorem long_walk (i : Int) (w : World) : Calls Try.prog 8 #[.int .i64 i] w (LawEnd w) := by
  by_cases h : i < -2 ∨ 2 < i
  · exact long_none i w h
  · exact long_some i (65536 + i).toNat w (by simp; omega) (by simp; omega) (by omega)
end Go.Proofs.Ytcbddkncaeancaa
