/- Walks: whether a byte may stand in a tag, of both; how far a tag goes; Tag of both. -/
import Derived.Test.YtpibehfmbmincaaGreatDoorWe
namespace Go.Proofs.YtpibehfmbmincaaGreatDoor
set_option linter.unusedVariables false
open Go.ChangeShapes Go.WideShapes Go.ChangeAt Go.RowKit

/-- tagC by numbers. -/
def tagN (n : Nat) : Bool := (decide (97 ≤ n) && decide (n ≤ 122)) || (decide (65 ≤ n) && decide (n ≤ 90)) || (decide (48 ≤ n) && decide (n ≤ 57)) || decide (n = 95) || decide (n = 46)
theorem tagC_N (b : UInt8) : tagC b = tagN b.toNat := by
  rw [Bool.eq_iff_iff]
  unfold tagC tagN
  simp only [Bool.or_eq_true, Bool.and_eq_true, decide_eq_true_iff, beq_iff_eq, UInt8.le_iff_toNat_le, ← UInt8.toNat_inj]
  exact Iff.rfl
theorem tagC_is (b : UInt8) (v : Bool) (h : tagN b.toNat = v) : tagC b = v := (tagC_N b).trans h
set_option maxHeartbeats 400000 in
theorem inTag_0 (n : Int) (w : World) (l97 : ¬ ((97 : Int) ≤ n)) (l65 : ¬ ((65 : Int) ≤ n)) (l48 : ¬ ((48 : Int) ≤ n)) (u122 : (n ≤ (122 : Int))) (u90 : (n ≤ (90 : Int))) (u57 : (n ≤ (57 : Int))) (e95 : (n == (95 : Int)) = false) (e46 : (n == (46 : Int)) = false) : Calls Tryz.prog 82 #[.int .u8 n] w fun e w' => e = .returned (.bool false) ∧ w = w' := by
  go_enter Tryz.func82, Tryz.ntmps82
  go_wp2_with fail
  go_ret
  exact ⟨rfl, rfl⟩
set_option maxHeartbeats 400000 in
theorem inTag_1 (n : Int) (w : World) (l97 : ¬ ((97 : Int) ≤ n)) (l65 : ¬ ((65 : Int) ≤ n)) (l48 : ¬ ((48 : Int) ≤ n)) (u122 : (n ≤ (122 : Int))) (u90 : (n ≤ (90 : Int))) (u57 : (n ≤ (57 : Int))) (e95 : (n == (95 : Int)) = false) (e46 : (n == (46 : Int)) = true) : Calls Tryz.prog 82 #[.int .u8 n] w fun e w' => e = .returned (.bool true) ∧ w = w' := by
  go_enter Tryz.func82, Tryz.ntmps82
  go_wp2_with fail
  go_ret
  exact ⟨rfl, rfl⟩
set_option maxHeartbeats 400000 in
theorem inTag_2 (n : Int) (w : World) (l97 : ¬ ((97 : Int) ≤ n)) (l65 : ¬ ((65 : Int) ≤ n)) (l48 : ¬ ((48 : Int) ≤ n)) (u122 : (n ≤ (122 : Int))) (u90 : (n ≤ (90 : Int))) (u57 : (n ≤ (57 : Int))) (e95 : (n == (95 : Int)) = false) (e46 : (n == (46 : Int)) = false) : Calls Tryz.prog 82 #[.int .u8 n] w fun e w' => e = .returned (.bool false) ∧ w = w' := by
  go_enter Tryz.func82, Tryz.ntmps82
  go_wp2_with fail
  go_ret
  exact ⟨rfl, rfl⟩
set_option maxHeartbeats 400000 in
theorem inTag_3 (n : Int) (w : World) (l97 : ¬ ((97 : Int) ≤ n)) (l65 : ¬ ((65 : Int) ≤ n)) (l48 : ((48 : Int) ≤ n)) (u122 : (n ≤ (122 : Int))) (u90 : (n ≤ (90 : Int))) (u57 : (n ≤ (57 : Int))) (e95 : (n == (95 : Int)) = false) (e46 : (n == (46 : Int)) = false) : Calls Tryz.prog 82 #[.int .u8 n] w fun e w' => e = .returned (.bool true) ∧ w = w' := by
  go_enter Tryz.func82, Tryz.ntmps82
  go_wp2_with fail
  go_ret
  exact ⟨rfl, rfl⟩
set_option maxHeartbeats 400000 in
theorem inTag_4 (n : Int) (w : World) (l97 : ¬ ((97 : Int) ≤ n)) (l65 : ¬ ((65 : Int) ≤ n)) (l48 : ((48 : Int) ≤ n)) (u122 : (n ≤ (122 : Int))) (u90 : (n ≤ (90 : Int))) (u57 : ¬ (n ≤ (57 : Int))) (e95 : (n == (95 : Int)) = false) (e46 : (n == (46 : Int)) = false) : Calls Tryz.prog 82 #[.int .u8 n] w fun e w' => e = .returned (.bool false) ∧ w = w' := by
  go_enter Tryz.func82, Tryz.ntmps82
  go_wp2_with fail
  go_ret
  exact ⟨rfl, rfl⟩
set_option maxHeartbeats 400000 in
theorem inTag_5 (n : Int) (w : World) (l97 : ¬ ((97 : Int) ≤ n)) (l65 : ((65 : Int) ≤ n)) (l48 : ((48 : Int) ≤ n)) (u122 : (n ≤ (122 : Int))) (u90 : (n ≤ (90 : Int))) (u57 : ¬ (n ≤ (57 : Int))) (e95 : (n == (95 : Int)) = false) (e46 : (n == (46 : Int)) = false) : Calls Tryz.prog 82 #[.int .u8 n] w fun e w' => e = .returned (.bool true) ∧ w = w' := by
  go_enter Tryz.func82, Tryz.ntmps82
  go_wp2_with fail
  go_ret
  exact ⟨rfl, rfl⟩
set_option maxHeartbeats 400000 in
theorem inTag_6 (n : Int) (w : World) (l97 : ¬ ((97 : Int) ≤ n)) (l65 : ((65 : Int) ≤ n)) (l48 : ((48 : Int) ≤ n)) (u122 : (n ≤ (122 : Int))) (u90 : ¬ (n ≤ (90 : Int))) (u57 : ¬ (n ≤ (57 : Int))) (e95 : (n == (95 : Int)) = false) (e46 : (n == (46 : Int)) = false) : Calls Tryz.prog 82 #[.int .u8 n] w fun e w' => e = .returned (.bool false) ∧ w = w' := by
  go_enter Tryz.func82, Tryz.ntmps82
  go_wp2_with fail
  go_ret
  exact ⟨rfl, rfl⟩
set_option maxHeartbeats 400000 in
theorem inTag_7 (n : Int) (w : World) (l97 : ¬ ((97 : Int) ≤ n)) (l65 : ((65 : Int) ≤ n)) (l48 : ((48 : Int) ≤ n)) (u122 : (n ≤ (122 : Int))) (u90 : ¬ (n ≤ (90 : Int))) (u57 : ¬ (n ≤ (57 : Int))) (e95 : (n == (95 : Int)) = true) (e46 : (n == (46 : Int)) = false) : Calls Tryz.prog 82 #[.int .u8 n] w fun e w' => e = .returned (.bool true) ∧ w = w' := by
  go_enter Tryz.func82, Tryz.ntmps82
  go_wp2_with fail
  go_ret
  exact ⟨rfl, rfl⟩
set_option maxHeartbeats 400000 in
theorem inTag_8 (n : Int) (w : World) (l97 : ¬ ((97 : Int) ≤ n)) (l65 : ((65 : Int) ≤ n)) (l48 : ((48 : Int) ≤ n)) (u122 : (n ≤ (122 : Int))) (u90 : ¬ (n ≤ (90 : Int))) (u57 : ¬ (n ≤ (57 : Int))) (e95 : (n == (95 : Int)) = false) (e46 : (n == (46 : Int)) = false) : Calls Tryz.prog 82 #[.int .u8 n] w fun e w' => e = .returned (.bool false) ∧ w = w' := by
  go_enter Tryz.func82, Tryz.ntmps82
  go_wp2_with fail
  go_ret
  exact ⟨rfl, rfl⟩
set_option maxHeartbeats 400000 in
theorem inTag_9 (n : Int) (w : World) (l97 : ((97 : Int) ≤ n)) (l65 : ((65 : Int) ≤ n)) (l48 : ((48 : Int) ≤ n)) (u122 : (n ≤ (122 : Int))) (u90 : ¬ (n ≤ (90 : Int))) (u57 : ¬ (n ≤ (57 : Int))) (e95 : (n == (95 : Int)) = false) (e46 : (n == (46 : Int)) = false) : Calls Tryz.prog 82 #[.int .u8 n] w fun e w' => e = .returned (.bool true) ∧ w = w' := by
  go_enter Tryz.func82, Tryz.ntmps82
  go_wp2_with fail
  go_ret
  exact ⟨rfl, rfl⟩
set_option maxHeartbeats 400000 in
theorem inTag_10 (n : Int) (w : World) (l97 : ((97 : Int) ≤ n)) (l65 : ((65 : Int) ≤ n)) (l48 : ((48 : Int) ≤ n)) (u122 : ¬ (n ≤ (122 : Int))) (u90 : ¬ (n ≤ (90 : Int))) (u57 : ¬ (n ≤ (57 : Int))) (e95 : (n == (95 : Int)) = false) (e46 : (n == (46 : Int)) = false) : Calls Tryz.prog 82 #[.int .u8 n] w fun e w' => e = .returned (.bool false) ∧ w = w' := by
  go_enter Tryz.func82, Tryz.ntmps82
  go_wp2_with fail
  go_ret
  exact ⟨rfl, rfl⟩
theorem inTag_any (b : UInt8) (w : World) : Calls Tryz.prog 82 #[.int .u8 b.toNat] w fun e w' => e = .returned (.bool (tagC b)) ∧ w = w' := by
  have hlt : b.toNat < 256 := b.toNat_lt
  by_cases c0 : b.toNat ≤ 45
  · have e : tagC b = false := tagC_is b _ (by unfold tagN; simp; omega)
    rw [e]
    exact inTag_0 b.toNat w (by omega) (by omega) (by omega) (by omega) (by omega) (by omega) (by first | exact beq_iff_eq.2 (by omega) | exact beq_eq_false_iff_ne.2 (by omega)) (by first | exact beq_iff_eq.2 (by omega) | exact beq_eq_false_iff_ne.2 (by omega))
  by_cases c1 : b.toNat ≤ 46
  · have e : tagC b = true := tagC_is b _ (by unfold tagN; simp; omega)
    rw [e]
    exact inTag_1 b.toNat w (by omega) (by omega) (by omega) (by omega) (by omega) (by omega) (by first | exact beq_iff_eq.2 (by omega) | exact beq_eq_false_iff_ne.2 (by omega)) (by first | exact beq_iff_eq.2 (by omega) | exact beq_eq_false_iff_ne.2 (by omega))
  by_cases c2 : b.toNat ≤ 47
  · have e : tagC b = false := tagC_is b _ (by unfold tagN; simp; omega)
    rw [e]
    exact inTag_2 b.toNat w (by omega) (by omega) (by omega) (by omega) (by omega) (by omega) (by first | exact beq_iff_eq.2 (by omega) | exact beq_eq_false_iff_ne.2 (by omega)) (by first | exact beq_iff_eq.2 (by omega) | exact beq_eq_false_iff_ne.2 (by omega))
  by_cases c3 : b.toNat ≤ 57
  · have e : tagC b = true := tagC_is b _ (by unfold tagN; simp; omega)
    rw [e]
    exact inTag_3 b.toNat w (by omega) (by omega) (by omega) (by omega) (by omega) (by omega) (by first | exact beq_iff_eq.2 (by omega) | exact beq_eq_false_iff_ne.2 (by omega)) (by first | exact beq_iff_eq.2 (by omega) | exact beq_eq_false_iff_ne.2 (by omega))
  by_cases c4 : b.toNat ≤ 64
  · have e : tagC b = false := tagC_is b _ (by unfold tagN; simp; omega)
    rw [e]
    exact inTag_4 b.toNat w (by omega) (by omega) (by omega) (by omega) (by omega) (by omega) (by first | exact beq_iff_eq.2 (by omega) | exact beq_eq_false_iff_ne.2 (by omega)) (by first | exact beq_iff_eq.2 (by omega) | exact beq_eq_false_iff_ne.2 (by omega))
  by_cases c5 : b.toNat ≤ 90
  · have e : tagC b = true := tagC_is b _ (by unfold tagN; simp; omega)
    rw [e]
    exact inTag_5 b.toNat w (by omega) (by omega) (by omega) (by omega) (by omega) (by omega) (by first | exact beq_iff_eq.2 (by omega) | exact beq_eq_false_iff_ne.2 (by omega)) (by first | exact beq_iff_eq.2 (by omega) | exact beq_eq_false_iff_ne.2 (by omega))
  by_cases c6 : b.toNat ≤ 94
  · have e : tagC b = false := tagC_is b _ (by unfold tagN; simp; omega)
    rw [e]
    exact inTag_6 b.toNat w (by omega) (by omega) (by omega) (by omega) (by omega) (by omega) (by first | exact beq_iff_eq.2 (by omega) | exact beq_eq_false_iff_ne.2 (by omega)) (by first | exact beq_iff_eq.2 (by omega) | exact beq_eq_false_iff_ne.2 (by omega))
  by_cases c7 : b.toNat ≤ 95
  · have e : tagC b = true := tagC_is b _ (by unfold tagN; simp; omega)
    rw [e]
    exact inTag_7 b.toNat w (by omega) (by omega) (by omega) (by omega) (by omega) (by omega) (by first | exact beq_iff_eq.2 (by omega) | exact beq_eq_false_iff_ne.2 (by omega)) (by first | exact beq_iff_eq.2 (by omega) | exact beq_eq_false_iff_ne.2 (by omega))
  by_cases c8 : b.toNat ≤ 96
  · have e : tagC b = false := tagC_is b _ (by unfold tagN; simp; omega)
    rw [e]
    exact inTag_8 b.toNat w (by omega) (by omega) (by omega) (by omega) (by omega) (by omega) (by first | exact beq_iff_eq.2 (by omega) | exact beq_eq_false_iff_ne.2 (by omega)) (by first | exact beq_iff_eq.2 (by omega) | exact beq_eq_false_iff_ne.2 (by omega))
  by_cases c9 : b.toNat ≤ 122
  · have e : tagC b = true := tagC_is b _ (by unfold tagN; simp; omega)
    rw [e]
    exact inTag_9 b.toNat w (by omega) (by omega) (by omega) (by omega) (by omega) (by omega) (by first | exact beq_iff_eq.2 (by omega) | exact beq_eq_false_iff_ne.2 (by omega)) (by first | exact beq_iff_eq.2 (by omega) | exact beq_eq_false_iff_ne.2 (by omega))
  have e : tagC b = false := tagC_is b _ (by unfold tagN; simp; omega)
  rw [e]
  exact inTag_10 b.toNat w (by omega) (by omega) (by omega) (by omega) (by omega) (by omega) (by first | exact beq_iff_eq.2 (by omega) | exact beq_eq_false_iff_ne.2 (by omega)) (by first | exact beq_iff_eq.2 (by omega) | exact beq_eq_false_iff_ne.2 (by omega))
end Go.Proofs.YtpibehfmbmincaaGreatDoor
