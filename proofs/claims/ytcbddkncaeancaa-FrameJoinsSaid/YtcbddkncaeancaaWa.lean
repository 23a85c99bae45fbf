/- Walks: the check sum. -/
import Derived.Test.YtcbddkncaeancaaProg
import Derived.Test.YtcbddkncaeancaaMa
import Derived.Test.YtcbddkncaeancaaKt
import Derived.Test.YtcbddkncaeancaaKq
import Derived.WalkKit
import Derived.ProofKit
import Derived.OpenShut
import Derived.WalkSpells
import Derived.WalkLawsBesides
import Derived.Below
import Derived.Deep.DeepFit
import Derived.RegionTactic
import Derived.ChangeAlike
import Derived.Deep.QuietTactic
import Derived.Deep.LoopGhost
import Derived.BigQuiet
namespace Go.Proofs.Ytcbddkncaeancaa
set_option linter.unusedVariables false
open Go.ChangeShapes Go.WideShapes Go.ChangeAt Go.RowKit

theorem mod2_cases (x : Nat) : x % 2 = 0 ∨ x % 2 = 1 := by omega
theorem turn_val (x : Nat) (h : x < 4294967296) : Value.int IntKind.u32 (bits BinOp.xor IntKind.u32 ((x : Int) / 2) (2197175160 * bits BinOp.and IntKind.u32 (x : Int) 1 % 4294967296)) = Value.int IntKind.u32 ((st x : Nat) : Int) := by
  have e : bits BinOp.and IntKind.u32 (x : Int) 1 = ((x % 2 : Nat) : Int) := by
    have := u32_and_nat x 1 h (by omega)
    rw [nat_mask1] at this
    exact this
  rw [e]
  congr 1
  unfold st
  rcases mod2_cases x with h2 | h2
  · rw [h2, if_neg (by omega)]
    have := u32_xor_nat (x / 2) 0 (by omega) (by omega)
    rw [Nat.xor_zero] at this
    have e1 : ((x / 2 : Nat) : Int) = (x : Int) / 2 := by omega
    rw [e1] at this
    simpa using this
  · rw [h2, if_pos rfl]
    have := u32_xor_nat (x / 2) 2197175160 (by omega) (by omega)
    have e1 : ((x / 2 : Nat) : Int) = (x : Int) / 2 := by omega
    rw [e1] at this
    simpa using this

set_option maxHeartbeats 1000000 in
theorem check_any (s : ByteArray) (w : World) (hs : s.size ≤ 9223372036854775807) :
    Calls Try.prog 12 #[.string s] w fun e w' => e = .returned (.int .u32 (crc s.data.toList : Nat)) ∧ w = w' := by
  go_enter Try.func12, Try.ntmps12
  go_wp2
  go_loopg [3, 7] s.size (fun g sum i wr => ∃ k : Nat, k + g = s.size ∧ i = .int .i64 k ∧ sum = .int .u32 (crcS (s.data.toList.take k) : Nat) ∧ wr = w)
  case atStart => exact ⟨0, by omega, rfl, rfl, rfl⟩
  case round =>
    obtain ⟨k, hk, rfl, rfl, rfl⟩ := hrel
    by_cases hlt : k < s.size
    · have hi : (k : Int) < s.size := by omega
      have hc := crcS_take s k hlt
      have h1 := crcS_lt (s.data.toList.take k)
      have h2 : s[k].toNat < 4294967296 := by have := s[k].toNat_lt; omega
      generalize crcS (s.data.toList.take k) = c at *
      have Hc := Lib.hid hc
      clear hc
      go_wp2
      obtain ⟨wo, rfl⟩ : ∃ wo : World, wo = wr := ⟨_, rfl⟩
      obtain ⟨gko, rfl⟩ : ∃ gko : Nat, gko = gk := ⟨_, rfl⟩
      have hx0 : bits BinOp.xor IntKind.u32 (c : Int) (s[k].toNat : Int) = ((c ^^^ s[k].toNat : Nat) : Int) := u32_xor_nat _ _ h1 h2
      rw [hx0]
      have hx1 : c ^^^ s[k].toNat < 4294967296 := xor_lt h1 h2
      have Hb : by8 c s[k] = stK 8 (c ^^^ s[k].toNat) := rfl
      generalize by8 c s[k] = q at *
      generalize c ^^^ s[k].toNat = x0 at *
      have HB := Lib.hid Hb
      clear Hb hx0 h1 h2
      go_loopg [3, 16] 8 (fun g sum i wr => ∃ j : Nat, j + g = 8 ∧ i = .int .i64 j ∧ sum = .int .u32 (stK j x0 : Nat) ∧ wr = wo)
      case atStart => exact ⟨0, by omega, rfl, rfl, rfl⟩
      case round =>
        obtain ⟨j, hj, rfl, rfl, rfl⟩ := hrel
        have hx := stK_lt j hx1
        have hst : stK (j + 1) x0 = st (stK j x0) := rfl
        generalize hxe : stK j x0 = x at *
        have Hst := Lib.hid hst
        have Hxe := Lib.hid hxe
        clear hst hxe
        by_cases hlt : j < 8
        · go_wp2
          go_roundg (gk - 1)
          case measure => omega
          case rel => exact ⟨j + 1, by omega, by go_num, by rw [Hst.out, turn_val x hx], rfl⟩
        · obtain rfl : j = 8 := by omega
          go_wp2
          go_roundg (gko - 1)
          case measure => omega
          case rel => exact ⟨k + 1, by omega, by go_num, by rw [Hc.out, HB.out, Hxe.out], rfl⟩
    · obtain rfl : k = s.size := by omega
      have h1 := crcS_lt (s.data.toList.take s.size)
      have hc : crc s.data.toList = crcS (s.data.toList.take s.size) ^^^ 4294967295 := by
        rw [List.take_of_length_le (by simp)]; rfl
      generalize crcS (s.data.toList.take s.size) = c at *
      have Hc := Lib.hid hc
      clear hc
      go_wp2
      go_ret
      refine ⟨?_, rfl⟩
      rw [Hc.out]
      show Ending.returned (Value.int IntKind.u32 (bits BinOp.xor IntKind.u32 ((4294967295 : Nat) : Int) (c : Int))) = _
      rw [u32_xor_nat _ _ (by omega) h1, Nat.xor_comm]

set_option maxHeartbeats 1000000 in
theorem refCheck_any (s : ByteArray) (w : World) (hs : s.size ≤ 9223372036854775807) :
    Calls Try.prog 13 #[.string s] w fun e w' => e = .returned (.int .u32 (crc s.data.toList : Nat)) ∧ w = w' := by
  go_enter Try.func13, Try.ntmps13
  go_wp2
  go_loopg [3, 4] s.size (fun g sum i wr => ∃ k : Nat, k + g = s.size ∧ i = .int .i64 k ∧ sum = .int .u32 (crcS (s.data.toList.take k) : Nat) ∧ wr = w)
  case atStart => exact ⟨0, by omega, rfl, rfl, rfl⟩
  case round =>
    obtain ⟨k, hk, rfl, rfl, rfl⟩ := hrel
    by_cases hlt : k < s.size
    · have hi : (k : Int) < s.size := by omega
      have hc := crcS_take s k hlt
      have h1 := crcS_lt (s.data.toList.take k)
      have h2 : s[k].toNat < 4294967296 := by have := s[k].toNat_lt; omega
      generalize crcS (s.data.toList.take k) = c at *
      have Hc := Lib.hid hc
      clear hc
      go_wp2
      obtain ⟨wo, rfl⟩ : ∃ wo : World, wo = wr := ⟨_, rfl⟩
      obtain ⟨gko, rfl⟩ : ∃ gko : Nat, gko = gk := ⟨_, rfl⟩
      have hx0 : bits BinOp.xor IntKind.u32 (c : Int) (s[k].toNat : Int) = ((c ^^^ s[k].toNat : Nat) : Int) := u32_xor_nat _ _ h1 h2
      rw [hx0]
      have hx1 : c ^^^ s[k].toNat < 4294967296 := xor_lt h1 h2
      have Hb : by8 c s[k] = stK 8 (c ^^^ s[k].toNat) := rfl
      generalize by8 c s[k] = q at *
      generalize c ^^^ s[k].toNat = x0 at *
      have HB := Lib.hid Hb
      clear Hb hx0 h1 h2
      go_loopg [3, 5] 8 (fun g sum i wr => ∃ j : Nat, j + g = 8 ∧ i = .int .i64 j ∧ sum = .int .u32 (stK j x0 : Nat) ∧ wr = wo)
      case atStart => exact ⟨0, by omega, rfl, rfl, rfl⟩
      case round =>
        obtain ⟨j, hj, rfl, rfl, rfl⟩ := hrel
        have hx := stK_lt j hx1
        have hst : stK (j + 1) x0 = st (stK j x0) := rfl
        generalize hxe : stK j x0 = x at *
        have Hst := Lib.hid hst
        have Hxe := Lib.hid hxe
        clear hst hxe
        by_cases hlt : j < 8
        · rcases mod2_cases x with h2 | h2
          · have h3 : (x : Int) % 2 = 0 := by omega
            have hv : st x = x / 2 := if_neg (by omega)
            have Hv := Lib.hid hv
            clear hv h2
            go_wp2
            go_roundg (gk - 1)
            case measure => omega
            case rel => exact ⟨j + 1, by omega, by go_num, by rw [Hst.out, Hv.out]; congr 1, rfl⟩
          · have h3 : (x : Int) % 2 = 1 := by omega
            have hv : st x = (x / 2) ^^^ 2197175160 := if_pos h2
            have Hv := Lib.hid hv
            have hq : bits BinOp.xor IntKind.u32 ((x : Int) / 2) 2197175160 = ((x / 2 ^^^ 2197175160 : Nat) : Int) := u32_xor_nat (x / 2) 2197175160 (by omega) (by omega)
            have Hq := Lib.hid hq
            clear hv h2 hq
            go_wp2
            go_roundg (gk - 1)
            case measure => omega
            case rel => exact ⟨j + 1, by omega, by go_num, by rw [Hst.out, Hv.out, ← Hq.out], rfl⟩
        · obtain rfl : j = 8 := by omega
          go_wp2
          go_roundg (gko - 1)
          case measure => omega
          case rel => exact ⟨k + 1, by omega, by go_num, by rw [Hc.out, HB.out, Hxe.out], rfl⟩
    · obtain rfl : k = s.size := by omega
      have h1 := crcS_lt (s.data.toList.take s.size)
      have hc : crc s.data.toList = crcS (s.data.toList.take s.size) ^^^ 4294967295 := by
        rw [List.take_of_length_le (by simp)]; rfl
      generalize crcS (s.data.toList.take s.size) = c at *
      have Hc := Lib.hid hc
      clear hc
      go_wp2
      go_ret
      refine ⟨?_, rfl⟩
      rw [Hc.out]
      show Ending.returned (Value.int IntKind.u32 (bits BinOp.xor IntKind.u32 (c : Int) ((4294967295 : Nat) : Int))) = _
      rw [u32_xor_nat _ _ h1 (by omega)]
end Go.Proofs.Ytcbddkncaeancaa
