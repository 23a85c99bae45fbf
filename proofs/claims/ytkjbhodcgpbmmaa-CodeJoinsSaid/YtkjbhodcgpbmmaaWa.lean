/- Walks over the numbers of package code. -/
import Derived.Test.YtkjbhodcgpbmmaaProg
import Derived.Test.YtkjbhodcgpbmmaaMa
import Derived.WalkKit
import Derived.ProofKit
import Derived.OpenShut
import Derived.WalkSpells
import Derived.WalkLawsBesides
import Derived.Below
import Derived.Deep.DeepFit
import Derived.RegionTactic
import Derived.ChangeAlike
import Derived.Deep.QuietTactic
import Derived.BigQuiet
namespace Go.Proofs.Ytkjbhodcgpbmmaa
open Go.ChangeShapes Go.WideShapes Go.ChangeAt Go.RowKit

set_option maxHeartbeats 400000 in
theorem readNum_short (s : ByteArray) (w : World) (h : s.size < 8) :
    Calls Try.prog 11 #[.string s] w fun e w' => e = .returned (.tuple #[.int .i64 0, .bool false]) ∧ w = w' := by
  go_enter Try.func11, Try.ntmps11
  go_wp2
  go_ret2
  exact ⟨rfl, rfl⟩

set_option maxHeartbeats 400000 in
theorem readNum_long (s : ByteArray) (w : World) (h : 8 ≤ s.size) (hs : s.size ≤ 9223372036854775807) :
    Calls Try.prog 11 #[.string s] w fun e w' => e = .returned (.tuple #[.int .i64 (wrap64 (be (s.data.toList.take 8))), .bool true]) ∧ w = w' := by
  go_enter Try.func11, Try.ntmps11
  go_wp2
  go_loop [4, 5, 9] (fun n _ i => ∃ k : Nat, k ≤ 8 ∧ i = .int .i64 k ∧ n = .int .u64 (be (s.data.toList.take k))) (fun _ _ i => 8 - (intOf i).toNat)
  case atStart => exact ⟨0, by omega, rfl, rfl⟩
  case round =>
    obtain ⟨k, hk, rfl, rfl⟩ := hrel
    by_cases hlt : k < 8
    · have hi : (k : Int) < s.size := by omega
      go_wp2
      refine ⟨⟨k + 1, by omega, by go_num, ?_⟩, by simp [intOf]; omega⟩
      have hb := be_take_lt s k
      have hp : 256 ^ k ≤ 256 ^ 7 := Nat.pow_le_pow_right (by omega) (by omega)
      rw [or_byte _ _ (by omega), be_take s k (by omega)]
    · obtain rfl : k = 8 := by omega
      go_wp2
      go_ret2
      exact ⟨rfl, rfl⟩

set_option maxHeartbeats 400000 in
theorem number_short (s : ByteArray) (w : World) (h : s.size < 8) :
    Calls Try.prog 23 #[.string s] w fun e w' => e = .returned (.tuple #[.int .i64 0, .bool false]) ∧ w = w' := by
  go_enter Try.func23, Try.ntmps23
  go_wp2
  go_ret2
  exact ⟨rfl, rfl⟩

set_option maxHeartbeats 400000 in
theorem number_yes (s : ByteArray) (w : World) (h : 8 ≤ s.size) (hs : s.size ≤ 9223372036854775807) (hb : be (s.data.toList.take 8) ≤ 1099511627776) :
    Calls Try.prog 23 #[.string s] w fun e w' => e = .returned (.tuple #[.int .i64 (be (s.data.toList.take 8)), .bool true]) ∧ w = w' := by
  go_enter Try.func23, Try.ntmps23
  go_wp2
  go_loop [4, 5] (fun n i => ∃ k : Nat, k ≤ 8 ∧ i = .int .i64 k ∧ n = .int .i64 (be (s.data.toList.take k))) (fun _ i => 8 - (intOf i).toNat)
  case atStart => exact ⟨0, by omega, rfl, rfl⟩
  case round =>
    obtain ⟨k, hk, rfl, rfl⟩ := hrel
    have hm := be_mono s k 8 hk h
    by_cases hlt : k < 8
    · have hi : (k : Int) < s.size := by omega
      have hn : ¬ (1099511627776 : Int) < be (s.data.toList.take k) := by omega
      have hks : k < s.size := by omega
      have hc : s[k].toNat < 256 := s[k].toNat_lt
      go_wp2
      refine ⟨⟨k + 1, by omega, by go_num, ?_⟩, by simp [intOf]; omega⟩
      rw [be_take s k (by omega)]
      go_num
    · obtain rfl : k = 8 := by omega
      have hd : decide ((be (s.data.toList.take 8) : Int) ≤ 1099511627776) = true := by simp; omega
      go_wp2
      go_ret2
      exact ⟨rfl, rfl⟩

/-- It is no number: some integer, false. -/
def NoNum (w : World) (e : Ending) (w' : World) : Prop := (∃ n : Int, e = .returned (.tuple #[.int .i64 n, .bool false])) ∧ w = w'

set_option maxHeartbeats 400000 in
theorem number_no (s : ByteArray) (w : World) (h : 8 ≤ s.size) (hs : s.size ≤ 9223372036854775807) (hb : 1099511627776 < be (s.data.toList.take 8)) :
    Calls Try.prog 23 #[.string s] w (NoNum w) := by
  go_enter Try.func23, Try.ntmps23
  go_wp2
  go_loop [4, 5] (fun n i => ∃ k : Nat, k ≤ 8 ∧ i = .int .i64 k ∧ n = .int .i64 (be (s.data.toList.take k))) (fun _ i => 8 - (intOf i).toNat)
  case atStart => exact ⟨0, by omega, rfl, rfl⟩
  case round =>
    obtain ⟨k, hk, rfl, rfl⟩ := hrel
    by_cases hlt : k < 8
    · have hi : (k : Int) < s.size := by omega
      by_cases hn : (1099511627776 : Int) < be (s.data.toList.take k)
      · go_wp2
        go_ret2
        exact ⟨⟨0, rfl⟩, rfl⟩
      · have hks : k < s.size := by omega
        have hc : s[k].toNat < 256 := s[k].toNat_lt
        go_wp2
        refine ⟨⟨k + 1, by omega, by go_num, ?_⟩, by simp [intOf]; omega⟩
        rw [be_take s k (by omega)]
        go_num
    · obtain rfl : k = 8 := by omega
      have hd : decide ((be (s.data.toList.take 8) : Int) ≤ 1099511627776) = false := by simp; omega
      go_wp2
      go_ret2
      exact ⟨⟨_, rfl⟩, rfl⟩
end Go.Proofs.Ytkjbhodcgpbmmaa
