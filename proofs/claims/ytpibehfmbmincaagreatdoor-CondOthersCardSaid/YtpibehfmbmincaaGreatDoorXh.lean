/- Walks: the program's Of, case by case. -/
import Derived.Test.YtpibehfmbmincaaGreatDoorXe
import Derived.OwnWalk
namespace Go.Proofs.YtpibehfmbmincaaGreatDoor
set_option linter.unusedVariables false
open Go.ChangeShapes Go.WideShapes Go.ChangeAt Go.RowKit

theorem results_cell {fn : Func} {p : Tmp} {ty : TypeId} (h : fn.results = #[.cell p ty]) (tmps : Array Value) (P : Program) (w : World) :
    (results fn tmps).run P w = ((asAddr (tmps.getD p undef)).run P w).andThen fun a w₁ => (loadVar ty a).run P w₁ := by
  simp only [results, h]
  simp [Sem.run_bind, Result.andThen]

set_option maxHeartbeats 1000000 in
theorem of_e (s q : ByteArray) (w : World) (HC : (∀ w1, Calls Tryz.prog 28 #[.string s, .string ⟨#[46, 103, 111]⟩] w1 fun e w' => e = .returned (.tuple #[.string q, .bool false]) ∧ w1 = w')) :
    Calls Tryz.prog 17 #[.string s] w fun e w' => e = .returned (.agg #[.bool false, .bool false, .string ⟨#[]⟩, .string ⟨#[]⟩]) ∧ Below w.heap.size w w' := by
  have HC' := Lib.hid HC
  clear HC
  go_enter Tryz.func17, Tryz.ntmps17
  go_wp2_with fail
  refine (HC'.out _).mono ?_
  rintro e w1 ⟨rfl, rfl⟩
  go_wp2_with fail
  refine bodyPost_ret (v := .agg #[.bool false, .bool false, .string ⟨#[]⟩, .string ⟨#[]⟩]) ((results_cell rfl _ _ _).trans (by simp [go_sem, loadVar, Tryz.isAgg44, Tryz.sizeOf44])) rfl ?_
  exact ⟨rfl, (Below.refl _ w).alloc (Nat.le_refl _) _⟩
set_option maxHeartbeats 1000000 in
theorem of_p (s q : ByteArray) (w : World) (HC : (∀ w1, Calls Tryz.prog 28 #[.string s, .string ⟨#[46, 103, 111]⟩] w1 fun e w' => e = .returned (.tuple #[.string q, .bool true]) ∧ w1 = w')) (HP : (∀ w1, Calls Tryz.prog 29 #[.string s] w1 fun e w' => e = .returned (.bool true) ∧ w1 = w')) :
    Calls Tryz.prog 17 #[.string s] w fun e w' => e = .returned (.agg #[.bool false, .bool false, .string ⟨#[]⟩, .string ⟨#[]⟩]) ∧ Below w.heap.size w w' := by
  have HC' := Lib.hid HC
  have HP' := Lib.hid HP
  clear HC HP
  go_enter Tryz.func17, Tryz.ntmps17
  go_wp2_with fail
  refine (HC'.out _).mono ?_
  rintro e w1 ⟨rfl, rfl⟩
  go_wp2_with fail
  refine (HP'.out _).mono ?_
  rintro e w1 ⟨rfl, rfl⟩
  go_wp2_with fail
  refine bodyPost_ret (v := .agg #[.bool false, .bool false, .string ⟨#[]⟩, .string ⟨#[]⟩]) ((results_cell rfl _ _ _).trans (by simp [go_sem, loadVar, Tryz.isAgg44, Tryz.sizeOf44])) rfl ?_
  exact ⟨rfl, (Below.refl _ w).alloc (Nat.le_refl _) _⟩
set_option maxHeartbeats 1000000 in
theorem of_n0 (s q r : ByteArray) (T : Bool) (arr : Array Value) (w : World) (HC : (∀ w1, Calls Tryz.prog 28 #[.string s, .string ⟨#[46, 103, 111]⟩] w1 fun e w' => e = .returned (.tuple #[.string q, .bool true]) ∧ w1 = w')) (HP : (∀ w1, Calls Tryz.prog 29 #[.string s] w1 fun e w' => e = .returned (.bool false) ∧ w1 = w')) (HT : (∀ w1, Calls Tryz.prog 28 #[.string q, .string ⟨#[95, 116, 101, 115, 116]⟩] w1 fun e w' => e = .returned (.tuple #[.string r, .bool T]) ∧ w1 = w')) (HS : ∀ w1, Below w.heap.size w w1 → Calls Tryz.prog 30 #[.string r, .string ⟨#[95]⟩] w1 fun e w' => e = .returned (.slice (some ⟨w1.heap.size, 0, none⟩) (0 + 1) (0 + 1)) ∧ w' = w1.alloc (.cells arr 9)) :
    Calls Tryz.prog 17 #[.string s] w fun e w' => e = .returned (.agg #[.bool true, .bool T, .string ⟨#[]⟩, .string ⟨#[]⟩]) ∧ Below w.heap.size w w' := by
  have HC' := Lib.hid HC
  have HP' := Lib.hid HP
  have HT' := Lib.hid HT
  have HS' := Lib.hid HS
  clear HC HP HT HS
  go_enter Tryz.func17, Tryz.ntmps17
  go_wp2_with fail
  refine (HC'.out _).mono ?_
  rintro e w1 ⟨rfl, rfl⟩
  go_wp2_with fail
  refine (HP'.out _).mono ?_
  rintro e w1 ⟨rfl, rfl⟩
  go_wp2_with fail
  refine (HT'.out _).mono ?_
  rintro e w1 ⟨rfl, rfl⟩
  go_wp2_with fail
  refine (HS'.out _ (by first | exact ((Below.refl _ w).alloc (Nat.le_refl _) _).alloc (by simp) _ | exact (Below.refl _ w).alloc (Nat.le_refl _) _)).mono ?_
  rintro e w1 ⟨rfl, rfl⟩
  go_wp2_with fail
  refine bodyPost_ret (v := .agg #[.bool true, .bool T, .string ⟨#[]⟩, .string ⟨#[]⟩]) ((results_cell rfl _ _ _).trans (by simp [go_sem, loadVar, Tryz.isAgg44, Tryz.sizeOf44])) rfl ?_
  exact ⟨rfl, (((Below.refl _ w).alloc (Nat.le_refl _) _).alloc (by simp) _).alloc (by simp; omega) _⟩
set_option maxHeartbeats 1000000 in
theorem of_c (s q r z : ByteArray) (T : Bool) (arr : Array Value) (k : Nat) (w : World) (HC : (∀ w1, Calls Tryz.prog 28 #[.string s, .string ⟨#[46, 103, 111]⟩] w1 fun e w' => e = .returned (.tuple #[.string q, .bool true]) ∧ w1 = w')) (HP : (∀ w1, Calls Tryz.prog 29 #[.string s] w1 fun e w' => e = .returned (.bool false) ∧ w1 = w')) (HT : (∀ w1, Calls Tryz.prog 28 #[.string q, .string ⟨#[95, 116, 101, 115, 116]⟩] w1 fun e w' => e = .returned (.tuple #[.string r, .bool T]) ∧ w1 = w')) (HS : ∀ w1, Below w.heap.size w w1 → Calls Tryz.prog 30 #[.string r, .string ⟨#[95]⟩] w1 fun e w' => e = .returned (.slice (some ⟨w1.heap.size, 0, none⟩) (k + 1) (k + 1)) ∧ w' = w1.alloc (.cells arr 9)) (hz : arr[k]? = some (.string z)) (hk1 : 1 ≤ k) (hk2 : k ≤ 1073741825) (HZ : (∀ w1, Calls Tryz.prog 31 #[.string z] w1 fun e w' => e = .returned (.bool true) ∧ w1 = w')) :
    Calls Tryz.prog 17 #[.string s] w fun e w' => e = .returned (.agg #[.bool true, .bool T, .string z, .string ⟨#[]⟩]) ∧ Below w.heap.size w w' := by
  have HC' := Lib.hid HC
  have HP' := Lib.hid HP
  have HT' := Lib.hid HT
  have HS' := Lib.hid HS
  have HZ' := Lib.hid HZ
  clear HC HP HT HS HZ
  go_enter Tryz.func17, Tryz.ntmps17
  go_wp2_with fail
  refine (HC'.out _).mono ?_
  rintro e w1 ⟨rfl, rfl⟩
  go_wp2_with fail
  refine (HP'.out _).mono ?_
  rintro e w1 ⟨rfl, rfl⟩
  go_wp2_with fail
  refine (HT'.out _).mono ?_
  rintro e w1 ⟨rfl, rfl⟩
  go_wp2_with fail
  refine (HS'.out _ (by first | exact ((Below.refl _ w).alloc (Nat.le_refl _) _).alloc (by simp) _ | exact (Below.refl _ w).alloc (Nat.le_refl _) _)).mono ?_
  rintro e w1 ⟨rfl, rfl⟩
  go_wp2_with fail
  refine (HZ'.out _).mono ?_
  rintro e w1 ⟨rfl, rfl⟩
  go_wp2_with fail
  refine bodyPost_ret (v := .agg #[.bool true, .bool T, .string z, .string ⟨#[]⟩]) ((results_cell rfl _ _ _).trans (by simp [go_sem, loadVar, Tryz.isAgg44, Tryz.sizeOf44])) rfl ?_
  exact ⟨rfl, (((Below.refl _ w).alloc (Nat.le_refl _) _).alloc (by simp) _).alloc (by simp; omega) _⟩
set_option maxHeartbeats 1000000 in
theorem of_z1 (s q r z : ByteArray) (T : Bool) (arr : Array Value) (k : Nat) (w : World) (HC : (∀ w1, Calls Tryz.prog 28 #[.string s, .string ⟨#[46, 103, 111]⟩] w1 fun e w' => e = .returned (.tuple #[.string q, .bool true]) ∧ w1 = w')) (HP : (∀ w1, Calls Tryz.prog 29 #[.string s] w1 fun e w' => e = .returned (.bool false) ∧ w1 = w')) (HT : (∀ w1, Calls Tryz.prog 28 #[.string q, .string ⟨#[95, 116, 101, 115, 116]⟩] w1 fun e w' => e = .returned (.tuple #[.string r, .bool T]) ∧ w1 = w')) (HS : ∀ w1, Below w.heap.size w w1 → Calls Tryz.prog 30 #[.string r, .string ⟨#[95]⟩] w1 fun e w' => e = .returned (.slice (some ⟨w1.heap.size, 0, none⟩) (k + 1) (k + 1)) ∧ w' = w1.alloc (.cells arr 9)) (hz : arr[k]? = some (.string z)) (hk1 : 1 ≤ k) (hk2 : k ≤ 1073741825) (HZ : (∀ w1, Calls Tryz.prog 31 #[.string z] w1 fun e w' => e = .returned (.bool false) ∧ w1 = w')) (HQ : (∀ w1, Calls Tryz.prog 32 #[.string z] w1 fun e w' => e = .returned (.bool false) ∧ w1 = w')) :
    Calls Tryz.prog 17 #[.string s] w fun e w' => e = .returned (.agg #[.bool true, .bool T, .string ⟨#[]⟩, .string ⟨#[]⟩]) ∧ Below w.heap.size w w' := by
  have HC' := Lib.hid HC
  have HP' := Lib.hid HP
  have HT' := Lib.hid HT
  have HS' := Lib.hid HS
  have HZ' := Lib.hid HZ
  have HQ' := Lib.hid HQ
  clear HC HP HT HS HZ HQ
  go_enter Tryz.func17, Tryz.ntmps17
  go_wp2_with fail
  refine (HC'.out _).mono ?_
  rintro e w1 ⟨rfl, rfl⟩
  go_wp2_with fail
  refine (HP'.out _).mono ?_
  rintro e w1 ⟨rfl, rfl⟩
  go_wp2_with fail
  refine (HT'.out _).mono ?_
  rintro e w1 ⟨rfl, rfl⟩
  go_wp2_with fail
  refine (HS'.out _ (by first | exact ((Below.refl _ w).alloc (Nat.le_refl _) _).alloc (by simp) _ | exact (Below.refl _ w).alloc (Nat.le_refl _) _)).mono ?_
  rintro e w1 ⟨rfl, rfl⟩
  go_wp2_with fail
  refine (HZ'.out _).mono ?_
  rintro e w1 ⟨rfl, rfl⟩
  go_wp2_with fail
  refine (HQ'.out _).mono ?_
  rintro e w1 ⟨rfl, rfl⟩
  go_wp2_with fail
  refine bodyPost_ret (v := .agg #[.bool true, .bool T, .string ⟨#[]⟩, .string ⟨#[]⟩]) ((results_cell rfl _ _ _).trans (by simp [go_sem, loadVar, Tryz.isAgg44, Tryz.sizeOf44])) rfl ?_
  exact ⟨rfl, (((Below.refl _ w).alloc (Nat.le_refl _) _).alloc (by simp) _).alloc (by simp; omega) _⟩
set_option maxHeartbeats 1000000 in
theorem of_one (s q r z : ByteArray) (T : Bool) (arr : Array Value) (w : World) (HC : (∀ w1, Calls Tryz.prog 28 #[.string s, .string ⟨#[46, 103, 111]⟩] w1 fun e w' => e = .returned (.tuple #[.string q, .bool true]) ∧ w1 = w')) (HP : (∀ w1, Calls Tryz.prog 29 #[.string s] w1 fun e w' => e = .returned (.bool false) ∧ w1 = w')) (HT : (∀ w1, Calls Tryz.prog 28 #[.string q, .string ⟨#[95, 116, 101, 115, 116]⟩] w1 fun e w' => e = .returned (.tuple #[.string r, .bool T]) ∧ w1 = w')) (HS : ∀ w1, Below w.heap.size w w1 → Calls Tryz.prog 30 #[.string r, .string ⟨#[95]⟩] w1 fun e w' => e = .returned (.slice (some ⟨w1.heap.size, 0, none⟩) (1 + 1) (1 + 1)) ∧ w' = w1.alloc (.cells arr 9)) (hz : arr[1]? = some (.string z)) (HZ : (∀ w1, Calls Tryz.prog 31 #[.string z] w1 fun e w' => e = .returned (.bool false) ∧ w1 = w')) (HQ : (∀ w1, Calls Tryz.prog 32 #[.string z] w1 fun e w' => e = .returned (.bool true) ∧ w1 = w')) :
    Calls Tryz.prog 17 #[.string s] w fun e w' => e = .returned (.agg #[.bool true, .bool T, .string ⟨#[]⟩, .string z]) ∧ Below w.heap.size w w' := by
  have HC' := Lib.hid HC
  have HP' := Lib.hid HP
  have HT' := Lib.hid HT
  have HS' := Lib.hid HS
  have HZ' := Lib.hid HZ
  have HQ' := Lib.hid HQ
  clear HC HP HT HS HZ HQ
  go_enter Tryz.func17, Tryz.ntmps17
  go_wp2_with fail
  refine (HC'.out _).mono ?_
  rintro e w1 ⟨rfl, rfl⟩
  go_wp2_with fail
  refine (HP'.out _).mono ?_
  rintro e w1 ⟨rfl, rfl⟩
  go_wp2_with fail
  refine (HT'.out _).mono ?_
  rintro e w1 ⟨rfl, rfl⟩
  go_wp2_with fail
  refine (HS'.out _ (by first | exact ((Below.refl _ w).alloc (Nat.le_refl _) _).alloc (by simp) _ | exact (Below.refl _ w).alloc (Nat.le_refl _) _)).mono ?_
  rintro e w1 ⟨rfl, rfl⟩
  go_wp2_with fail
  refine (HZ'.out _).mono ?_
  rintro e w1 ⟨rfl, rfl⟩
  go_wp2_with fail
  refine (HQ'.out _).mono ?_
  rintro e w1 ⟨rfl, rfl⟩
  go_wp2_with fail
  refine bodyPost_ret (v := .agg #[.bool true, .bool T, .string ⟨#[]⟩, .string z]) ((results_cell rfl _ _ _).trans (by simp [go_sem, loadVar, Tryz.isAgg44, Tryz.sizeOf44])) rfl ?_
  exact ⟨rfl, (((Below.refl _ w).alloc (Nat.le_refl _) _).alloc (by simp) _).alloc (by simp; omega) _⟩
set_option maxHeartbeats 1000000 in
theorem of_two0 (s q r z y : ByteArray) (T : Bool) (arr : Array Value) (k : Nat) (w : World) (HC : (∀ w1, Calls Tryz.prog 28 #[.string s, .string ⟨#[46, 103, 111]⟩] w1 fun e w' => e = .returned (.tuple #[.string q, .bool true]) ∧ w1 = w')) (HP : (∀ w1, Calls Tryz.prog 29 #[.string s] w1 fun e w' => e = .returned (.bool false) ∧ w1 = w')) (HT : (∀ w1, Calls Tryz.prog 28 #[.string q, .string ⟨#[95, 116, 101, 115, 116]⟩] w1 fun e w' => e = .returned (.tuple #[.string r, .bool T]) ∧ w1 = w')) (HS : ∀ w1, Below w.heap.size w w1 → Calls Tryz.prog 30 #[.string r, .string ⟨#[95]⟩] w1 fun e w' => e = .returned (.slice (some ⟨w1.heap.size, 0, none⟩) (k + 1) (k + 1)) ∧ w' = w1.alloc (.cells arr 9)) (hz : arr[k]? = some (.string z)) (hk1 : 1 ≤ k) (hk2 : k ≤ 1073741825) (hk : 2 ≤ k) (hy : arr[k - 1]? = some (.string y)) (hy2 : arr[1 + (k - 2)]? = some (.string y)) (HZ : (∀ w1, Calls Tryz.prog 31 #[.string z] w1 fun e w' => e = .returned (.bool false) ∧ w1 = w')) (HQ : (∀ w1, Calls Tryz.prog 32 #[.string z] w1 fun e w' => e = .returned (.bool true) ∧ w1 = w')) (HY : (∀ w1, Calls Tryz.prog 31 #[.string y] w1 fun e w' => e = .returned (.bool false) ∧ w1 = w')) :
    Calls Tryz.prog 17 #[.string s] w fun e w' => e = .returned (.agg #[.bool true, .bool T, .string ⟨#[]⟩, .string z]) ∧ Below w.heap.size w w' := by
  have HC' := Lib.hid HC
  have HP' := Lib.hid HP
  have HT' := Lib.hid HT
  have HS' := Lib.hid HS
  have HZ' := Lib.hid HZ
  have HQ' := Lib.hid HQ
  have HY' := Lib.hid HY
  clear HC HP HT HS HZ HQ HY
  go_enter Tryz.func17, Tryz.ntmps17
  go_wp2_with fail
  refine (HC'.out _).mono ?_
  rintro e w1 ⟨rfl, rfl⟩
  go_wp2_with fail
  refine (HP'.out _).mono ?_
  rintro e w1 ⟨rfl, rfl⟩
  go_wp2_with fail
  refine (HT'.out _).mono ?_
  rintro e w1 ⟨rfl, rfl⟩
  go_wp2_with fail
  refine (HS'.out _ (by first | exact ((Below.refl _ w).alloc (Nat.le_refl _) _).alloc (by simp) _ | exact (Below.refl _ w).alloc (Nat.le_refl _) _)).mono ?_
  rintro e w1 ⟨rfl, rfl⟩
  go_wp2_with fail
  refine (HZ'.out _).mono ?_
  rintro e w1 ⟨rfl, rfl⟩
  go_wp2_with fail
  refine (HQ'.out _).mono ?_
  rintro e w1 ⟨rfl, rfl⟩
  go_wp2_with fail
  refine (HY'.out _).mono ?_
  rintro e w1 ⟨rfl, rfl⟩
  go_wp2_with fail
  refine bodyPost_ret (v := .agg #[.bool true, .bool T, .string ⟨#[]⟩, .string z]) ((results_cell rfl _ _ _).trans (by simp [go_sem, loadVar, Tryz.isAgg44, Tryz.sizeOf44])) rfl ?_
  exact ⟨rfl, (((Below.refl _ w).alloc (Nat.le_refl _) _).alloc (by simp) _).alloc (by simp; omega) _⟩
set_option maxHeartbeats 1000000 in
theorem of_two1 (s q r z y : ByteArray) (T : Bool) (arr : Array Value) (k : Nat) (w : World) (HC : (∀ w1, Calls Tryz.prog 28 #[.string s, .string ⟨#[46, 103, 111]⟩] w1 fun e w' => e = .returned (.tuple #[.string q, .bool true]) ∧ w1 = w')) (HP : (∀ w1, Calls Tryz.prog 29 #[.string s] w1 fun e w' => e = .returned (.bool false) ∧ w1 = w')) (HT : (∀ w1, Calls Tryz.prog 28 #[.string q, .string ⟨#[95, 116, 101, 115, 116]⟩] w1 fun e w' => e = .returned (.tuple #[.string r, .bool T]) ∧ w1 = w')) (HS : ∀ w1, Below w.heap.size w w1 → Calls Tryz.prog 30 #[.string r, .string ⟨#[95]⟩] w1 fun e w' => e = .returned (.slice (some ⟨w1.heap.size, 0, none⟩) (k + 1) (k + 1)) ∧ w' = w1.alloc (.cells arr 9)) (hz : arr[k]? = some (.string z)) (hk1 : 1 ≤ k) (hk2 : k ≤ 1073741825) (hk : 2 ≤ k) (hy : arr[k - 1]? = some (.string y)) (hy2 : arr[1 + (k - 2)]? = some (.string y)) (HZ : (∀ w1, Calls Tryz.prog 31 #[.string z] w1 fun e w' => e = .returned (.bool false) ∧ w1 = w')) (HQ : (∀ w1, Calls Tryz.prog 32 #[.string z] w1 fun e w' => e = .returned (.bool true) ∧ w1 = w')) (HY : (∀ w1, Calls Tryz.prog 31 #[.string y] w1 fun e w' => e = .returned (.bool true) ∧ w1 = w')) :
    Calls Tryz.prog 17 #[.string s] w fun e w' => e = .returned (.agg #[.bool true, .bool T, .string y, .string z]) ∧ Below w.heap.size w w' := by
  have HC' := Lib.hid HC
  have HP' := Lib.hid HP
  have HT' := Lib.hid HT
  have HS' := Lib.hid HS
  have HZ' := Lib.hid HZ
  have HQ' := Lib.hid HQ
  have HY' := Lib.hid HY
  clear HC HP HT HS HZ HQ HY
  go_enter Tryz.func17, Tryz.ntmps17
  go_wp2_with fail
  refine (HC'.out _).mono ?_
  rintro e w1 ⟨rfl, rfl⟩
  go_wp2_with fail
  refine (HP'.out _).mono ?_
  rintro e w1 ⟨rfl, rfl⟩
  go_wp2_with fail
  refine (HT'.out _).mono ?_
  rintro e w1 ⟨rfl, rfl⟩
  go_wp2_with fail
  refine (HS'.out _ (by first | exact ((Below.refl _ w).alloc (Nat.le_refl _) _).alloc (by simp) _ | exact (Below.refl _ w).alloc (Nat.le_refl _) _)).mono ?_
  rintro e w1 ⟨rfl, rfl⟩
  go_wp2_with fail
  refine (HZ'.out _).mono ?_
  rintro e w1 ⟨rfl, rfl⟩
  go_wp2_with fail
  refine (HQ'.out _).mono ?_
  rintro e w1 ⟨rfl, rfl⟩
  go_wp2_with fail
  refine (HY'.out _).mono ?_
  rintro e w1 ⟨rfl, rfl⟩
  go_wp2_with fail
  refine bodyPost_ret (v := .agg #[.bool true, .bool T, .string y, .string z]) ((results_cell rfl _ _ _).trans (by simp [go_sem, loadVar, Tryz.isAgg44, Tryz.sizeOf44])) rfl ?_
  exact ⟨rfl, (((Below.refl _ w).alloc (Nat.le_refl _) _).alloc (by simp) _).alloc (by simp; omega) _⟩
end Go.Proofs.YtpibehfmbmincaaGreatDoor
