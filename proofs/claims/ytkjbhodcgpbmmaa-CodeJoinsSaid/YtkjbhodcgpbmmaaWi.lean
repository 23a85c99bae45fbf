/- Walks: what the document tells by an example. -/
import Derived.Test.YtkjbhodcgpbmmaaWh
namespace Go.Proofs.Ytkjbhodcgpbmmaa
open Go.ChangeShapes Go.WideShapes Go.ChangeAt Go.RowKit

def oneA : ByteArray := ⟨#[0, 0, 0, 0, 0, 0, 0, 1, 0, 0, 0, 0, 0, 0, 0, 1, 97]⟩
theorem join_a : joinB [⟨#[97]⟩] = oneA := by decide +kernel
theorem split_a : splitB oneA = some [⟨#[97]⟩] := by decide +kernel

theorem Strs.one (w : World) (s : ByteArray) : Strs (w.alloc (.cells #[.string s] 9)) (.slice (some ⟨w.heap.size, 0, none⟩) 1 1) [s] := by
  refine .inr ⟨w.heap.size, 0, 1, rfl, by simp, by unfold maxLen; omega, by simp, fun i hi => ?_⟩
  have : i = 0 := by simp at hi; omega
  subst this
  rw [Nat.add_zero, World.cell?_alloc_at _ _ _ _ rfl]; rfl

theorem Strs.one_cell {w : World} {v : Value} {s : ByteArray} (h : Strs w v [s]) : ∃ b off cap, v = .slice (some ⟨b, off, none⟩) 1 cap ∧ 1 ≤ cap ∧ cap ≤ maxLen ∧ b < w.heap.size ∧ w.cell? ⟨b, off, none⟩ = some (.string s) := by
  rcases h with ⟨_, h⟩ | ⟨b, off, cap, hv, hl, hc, hb, hcell⟩
  · cases h
  · exact ⟨b, off, cap, hv, hl, hc, hb, by simpa using hcell 0 (by simp)⟩

set_option maxHeartbeats 400000 in
theorem alive_any (w : World) : Calls Try.prog 9 #[] w fun e w' => e = .returned (.bool true) ∧ Below w.heap.size w w' := by
  go_enter Try.func9, Try.ntmps9
  go_wp2_with fail
  refine (join_any _ [⟨#[97]⟩] _ (Strs.one w _) (by simp [total, ByteArray.size]) (by simp)).mono ?_
  rintro e w1 ⟨rfl, hB1⟩
  rw [join_a]
  have hB01 : Below w.heap.size w w1 := (((Below.refl _ w).alloc (Nat.le_refl _) _).trans (hB1.mono (by simp)))
  clear hB1
  go_wp2_with fail
  refine (split_any oneA _ (by decide)).mono ?_
  rintro e w2 ⟨hB2, hr⟩
  rw [split_a] at hr
  obtain ⟨v, rfl, hs⟩ := hr
  obtain ⟨b, off, cap, rfl, hcap, hmax, hb, hcell⟩ := hs.one_cell
  have hB02 := hB01.trans (hB2.mono hB01.size)
  clear hs hB2 hB01
  unfold oneA
  go_wp2_with fail
  go_ret
  exact ⟨rfl, hB02⟩
end Go.Proofs.Ytkjbhodcgpbmmaa
