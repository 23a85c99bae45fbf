/- Walks: what the document tells; the statement FrameSplits. -/
import Derived.Test.YtcbddkncaeancaaWj
namespace Go.Proofs.Ytcbddkncaeancaa
set_option linter.unusedVariables false
open Go.ChangeShapes Go.WideShapes Go.ChangeAt Go.RowKit

theorem crc_told : crc (⟨#[49, 50, 51, 52, 53, 54, 55, 56, 57]⟩ : ByteArray).data.toList = 3808858755 := by decide +kernel
theorem ab_len : (recsL [⟨#[97]⟩, ⟨#[98]⟩]).length = 18 := by decide +kernel
theorem ab_split : splitL (recsL [⟨#[97]⟩, ⟨#[98]⟩]) = ([⟨#[97]⟩, ⟨#[98]⟩], 18) := by
  rw [split_put _ (fun s hs => by simp at hs; rcases hs with rfl | rfl <;> decide), ab_len]

theorem two_strs (w : World) (a b : ByteArray) (t : TypeId) : Strs (w.alloc (.cells #[.string a, .string b] t)) (.slice (some ⟨w.heap.size, 0, none⟩) 2 2) [a, b] := by
  refine .inr ⟨w.heap.size, 0, 2, rfl, by simp, by unfold maxLen; omega, by simp, fun i hi => ?_⟩
  rw [Nat.zero_add, World.cell?_alloc_at _ _ _ _ rfl]
  simp at hi
  rcases (by omega : i = 0 ∨ i = 1) with rfl | rfl <;> simp

set_option maxHeartbeats 400000 in
theorem alive_any (w : World) : Calls Try.prog 10 #[] w fun e w' => e = .returned (.bool true) ∧ Below w.heap.size w w' := by
  have hck := fun w1 => check_any ⟨#[49, 50, 51, 52, 53, 54, 55, 56, 57]⟩ w1 (by decide)
  rw [crc_told] at hck
  have Hck := Lib.hid hck
  clear hck
  go_enter Try.func10, Try.ntmps10
  go_wp2_with fail
  refine (put_any (.slice none 0 0) _ [] [⟨#[97]⟩, ⟨#[98]⟩] _ (.inl ⟨rfl, rfl⟩) (two_strs w _ _ _) (by decide)).mono ?_
  rintro e w1 ⟨v1, rfl, hown1, hB1⟩
  rw [List.nil_append] at hown1
  have hB01 : Below w.heap.size w w1 := ((Below.refl _ w).alloc (Nat.le_refl _) _).trans (hB1.mono (by simp))
  have hs := split_any v1 _ w1 (BytsA.ofRow hown1).byts (by rw [ab_len]; omega)
  rw [ab_split] at hs
  have Hs := Lib.hid hs
  clear hs hB1 hown1
  go_wp2_with fail
  refine Hs.out.mono ?_
  rintro e w2 ⟨hB2, v2, rfl, hv2⟩
  obtain ⟨p, cap, rfl, _⟩ := strs_shape hv2
  have hB02 := hB01.trans (hB2.mono hB01.size)
  clear hv2 hB2 hB01
  go_wp2_with fail
  refine (Hck.out _).mono ?_
  rintro e w3 ⟨rfl, rfl⟩
  go_wp2_with fail
  go_ret
  exact ⟨rfl, hB02⟩

theorem strs_len {w : World} {v : Value} {ss : List ByteArray} (h : Strs w v ss) : ss.length ≤ 9223372036854775807 := by
  rcases h with ⟨_, rfl⟩ | ⟨b, off, cap, _, hl, hm, _⟩
  · simp
  · unfold maxLen at hm; omega
theorem strs_same (v u : Value) (a : List ByteArray) (w : World) (hv : Strs w v a) (hu : Strs w u a) : Calls Try.prog 18 #[v, u] w fun e w' => e = .returned (.bool true) ∧ ∃ k, w' = w.drewN k :=
  (same_any v u a a w hv hu (strs_len hv) (strs_len hv)).mono fun e w' ⟨h1, h2⟩ => ⟨by simpa using h1, h2⟩

set_option maxHeartbeats 400000 in
theorem splits_walk (v : Value) (l : List UInt8) (w : World) (hv : BytsA w v l) (hl : l.length ≤ 9223372036854775807) :
    Calls Try.prog 4 #[v] w (LawEnd w) := by
  obtain ⟨p, cap, rfl⟩ := byts_shape hv.byts
  obtain ⟨n, hn⟩ : ∃ n, n = l.length := ⟨_, rfl⟩
  rw [← hn] at hv hl ⊢
  have hbel : ∀ w1, Below w.heap.size w w1 → BytsA w1 (.slice p n cap) l := fun w1 hB => hv.below hB
  have Hv := Lib.hid hbel
  have Hn := Lib.hid hn
  clear hbel hv hn
  by_cases hg : 8192 < n
  · have h1 : decide ((8192 : Int) < (n : Int)) = true := by simp; omega
    go_enter Try.func4, Try.ntmps4
    go_wp2_with fail
    refine (alive_any _).mono ?_
    rintro e w1 ⟨rfl, hB1⟩
    go_wp2_with fail
    go_ret
    exact ⟨rfl, hB1⟩
  · have h1 : decide ((8192 : Int) < (n : Int)) = false := by simp; omega
    have hms : (mkB l).size ≤ 8192 := by rw [mkB_size]; have := Hn.out; omega
    go_enter Try.func4, Try.ntmps4
    go_wp2_with fail
    refine (alive_any _).mono ?_
    rintro e w1 ⟨rfl, hB1⟩
    go_wp2_with fail
    obtain ⟨ss, k, hsk⟩ : ∃ ss k, splitL l = (ss, k) := ⟨_, _, rfl⟩
    have hs1 := split_any _ l w1 (Hv.out _ hB1).byts (by have := Hn.out; omega)
    have hrs := fun w2 => refSplit_any (mkB l) w2 (by omega)
    rw [mkB_toList] at hrs
    rw [hsk] at hs1 hrs
    have Hrs := Lib.hid hrs
    clear hsk hrs
    refine hs1.mono ?_
    rintro e w2 ⟨hB2, v2, rfl, hv2⟩
    have hB02 := hB1.trans (hB2.mono hB1.size)
    have hcv := byts_conv (Hv.out _ hB02)
    clear hs1 hB1 hB2
    go_wp2_with fail
    refine (Hrs.out _).mono ?_
    rintro e w3 ⟨hB3, v3, rfl, hv3⟩
    have hB03 := hB02.trans (hB3.mono hB02.size)
    have hsm := strs_same v2 v3 ss w3 (hv2.below hB3) hv3
    clear hB02 hB3 hcv hv2 hv3
    go_wp2_with fail
    refine hsm.mono ?_
    rintro e w4 ⟨rfl, kq, rfl⟩
    clear hsm
    go_wp2_with fail
    go_ret
    exact ⟨rfl, below_drewN hB03 _⟩
end Go.Proofs.Ytcbddkncaeancaa
