/- Walks: words that are turned. -/
import Derived.Test.YtdhaanaenklleaaDoorProg
import Derived.Test.YtdhaanaenklleaaDoorSMa
import Derived.WalkKit
import Derived.ProofKit
import Derived.OpenShut
import Derived.WalkSpells
import Derived.WalkLawsBesides
import Derived.Below
import Derived.Deep.DeepFit
import Derived.RegionTactic
import Derived.ChangeAlike
import Derived.Deep.QuietTactic
import Derived.Deep.LoopGhost
import Derived.BigQuiet
import Derived.Laws.MakeOwn
import Derived.Laws.AppendOwn
import Derived.Deep.DeepMust
import Derived.Maps.AppendAt
namespace Go.Proofs.YtdhaanaenklleaaDoor.S
set_option linter.unusedVariables false
open Go.ChangeShapes Go.WideShapes Go.ChangeAt Go.RowKit

theorem orp2 (x : Nat) (hx : x < 4294967296) : bits .or .u32 ((x : Int) * 1073741824 % 4294967296) ((x : Int) / 4) = ((ror x 2 : Nat) : Int) := by
  have h1 : x * 1073741824 % 4294967296 < 4294967296 := Nat.mod_lt _ (by decide)
  have h2 : x / 4 < 4294967296 := Nat.lt_of_le_of_lt (Nat.div_le_self _ _) hx
  rw [show (x : Int) * 1073741824 % 4294967296 = ((x * 1073741824 % 4294967296 : Nat) : Int) by omega, show (x : Int) / 4 = ((x / 4 : Nat) : Int) by omega, u32_or_nat _ _ h1 h2, Nat.or_comm]
  rfl
theorem oru2 (x : Nat) (hx : x < 4294967296) : bits .or .u32 ((x : Int) / 4) ((x : Int) * 1073741824 % 4294967296) = ((ror x 2 : Nat) : Int) := by
  have h1 : x * 1073741824 % 4294967296 < 4294967296 := Nat.mod_lt _ (by decide)
  have h2 : x / 4 < 4294967296 := Nat.lt_of_le_of_lt (Nat.div_le_self _ _) hx
  rw [show (x : Int) * 1073741824 % 4294967296 = ((x * 1073741824 % 4294967296 : Nat) : Int) by omega, show (x : Int) / 4 = ((x / 4 : Nat) : Int) by omega, u32_or_nat _ _ h2 h1]
  rfl
set_option maxRecDepth 100000 in
set_option maxHeartbeats 400000 in
theorem rot2 (x : Nat) (w : World) (hx : x < 4294967296) :
    Calls Tryd.prog 151 #[.int .u32 x, .int .i64 (-2)] w fun e w' => e = .returned (.int .u32 ((ror x 2 : Nat) : Int)) ∧ w = w' := by
  have hb : bits .and .u64 (IntKind.u64.wrap (-2)) 31 = 30 := by decide
  go_enter Tryd.func151, Tryd.ntmps151
  go_wp2
  go_ret
  exact ⟨by rw [orp2 x hx]; rfl, rfl⟩
set_option maxRecDepth 100000 in
set_option maxHeartbeats 400000 in
theorem turn2 (x : Nat) (w : World) (hx : x < 4294967296) :
    Calls Tryd.prog 143 #[.int .u32 x, .int .i64 2] w fun e w' => e = .returned (.int .u32 ((ror x 2 : Nat) : Int)) ∧ w = w' := by
  go_enter Tryd.func143, Tryd.ntmps143
  go_wp2_with fail
  refine (rot2 x _ hx).mono ?_
  rintro e w' ⟨rfl, rfl⟩
  go_wp2
  go_ret
  exact ⟨rfl, rfl⟩
set_option maxRecDepth 100000 in
set_option maxHeartbeats 400000 in
theorem dturn2 (x : Nat) (w : World) (hx : x < 4294967296) :
    Calls Tryd.prog 108 #[.int .u32 x, .int .u64 2] w fun e w' => e = .returned (.int .u32 ((ror x 2 : Nat) : Int)) ∧ w = w' := by
  go_enter Tryd.func108, Tryd.ntmps108
  go_wp2
  go_ret
  exact ⟨by rw [oru2 x hx]; rfl, rfl⟩

theorem orp6 (x : Nat) (hx : x < 4294967296) : bits .or .u32 ((x : Int) * 67108864 % 4294967296) ((x : Int) / 64) = ((ror x 6 : Nat) : Int) := by
  have h1 : x * 67108864 % 4294967296 < 4294967296 := Nat.mod_lt _ (by decide)
  have h2 : x / 64 < 4294967296 := Nat.lt_of_le_of_lt (Nat.div_le_self _ _) hx
  rw [show (x : Int) * 67108864 % 4294967296 = ((x * 67108864 % 4294967296 : Nat) : Int) by omega, show (x : Int) / 64 = ((x / 64 : Nat) : Int) by omega, u32_or_nat _ _ h1 h2, Nat.or_comm]
  rfl
theorem oru6 (x : Nat) (hx : x < 4294967296) : bits .or .u32 ((x : Int) / 64) ((x : Int) * 67108864 % 4294967296) = ((ror x 6 : Nat) : Int) := by
  have h1 : x * 67108864 % 4294967296 < 4294967296 := Nat.mod_lt _ (by decide)
  have h2 : x / 64 < 4294967296 := Nat.lt_of_le_of_lt (Nat.div_le_self _ _) hx
  rw [show (x : Int) * 67108864 % 4294967296 = ((x * 67108864 % 4294967296 : Nat) : Int) by omega, show (x : Int) / 64 = ((x / 64 : Nat) : Int) by omega, u32_or_nat _ _ h2 h1]
  rfl
set_option maxRecDepth 100000 in
set_option maxHeartbeats 400000 in
theorem rot6 (x : Nat) (w : World) (hx : x < 4294967296) :
    Calls Tryd.prog 151 #[.int .u32 x, .int .i64 (-6)] w fun e w' => e = .returned (.int .u32 ((ror x 6 : Nat) : Int)) ∧ w = w' := by
  have hb : bits .and .u64 (IntKind.u64.wrap (-6)) 31 = 26 := by decide
  go_enter Tryd.func151, Tryd.ntmps151
  go_wp2
  go_ret
  exact ⟨by rw [orp6 x hx]; rfl, rfl⟩
set_option maxRecDepth 100000 in
set_option maxHeartbeats 400000 in
theorem turn6 (x : Nat) (w : World) (hx : x < 4294967296) :
    Calls Tryd.prog 143 #[.int .u32 x, .int .i64 6] w fun e w' => e = .returned (.int .u32 ((ror x 6 : Nat) : Int)) ∧ w = w' := by
  go_enter Tryd.func143, Tryd.ntmps143
  go_wp2_with fail
  refine (rot6 x _ hx).mono ?_
  rintro e w' ⟨rfl, rfl⟩
  go_wp2
  go_ret
  exact ⟨rfl, rfl⟩
set_option maxRecDepth 100000 in
set_option maxHeartbeats 400000 in
theorem dturn6 (x : Nat) (w : World) (hx : x < 4294967296) :
    Calls Tryd.prog 108 #[.int .u32 x, .int .u64 6] w fun e w' => e = .returned (.int .u32 ((ror x 6 : Nat) : Int)) ∧ w = w' := by
  go_enter Tryd.func108, Tryd.ntmps108
  go_wp2
  go_ret
  exact ⟨by rw [oru6 x hx]; rfl, rfl⟩

theorem orp7 (x : Nat) (hx : x < 4294967296) : bits .or .u32 ((x : Int) * 33554432 % 4294967296) ((x : Int) / 128) = ((ror x 7 : Nat) : Int) := by
  have h1 : x * 33554432 % 4294967296 < 4294967296 := Nat.mod_lt _ (by decide)
  have h2 : x / 128 < 4294967296 := Nat.lt_of_le_of_lt (Nat.div_le_self _ _) hx
  rw [show (x : Int) * 33554432 % 4294967296 = ((x * 33554432 % 4294967296 : Nat) : Int) by omega, show (x : Int) / 128 = ((x / 128 : Nat) : Int) by omega, u32_or_nat _ _ h1 h2, Nat.or_comm]
  rfl
theorem oru7 (x : Nat) (hx : x < 4294967296) : bits .or .u32 ((x : Int) / 128) ((x : Int) * 33554432 % 4294967296) = ((ror x 7 : Nat) : Int) := by
  have h1 : x * 33554432 % 4294967296 < 4294967296 := Nat.mod_lt _ (by decide)
  have h2 : x / 128 < 4294967296 := Nat.lt_of_le_of_lt (Nat.div_le_self _ _) hx
  rw [show (x : Int) * 33554432 % 4294967296 = ((x * 33554432 % 4294967296 : Nat) : Int) by omega, show (x : Int) / 128 = ((x / 128 : Nat) : Int) by omega, u32_or_nat _ _ h2 h1]
  rfl
set_option maxRecDepth 100000 in
set_option maxHeartbeats 400000 in
theorem rot7 (x : Nat) (w : World) (hx : x < 4294967296) :
    Calls Tryd.prog 151 #[.int .u32 x, .int .i64 (-7)] w fun e w' => e = .returned (.int .u32 ((ror x 7 : Nat) : Int)) ∧ w = w' := by
  have hb : bits .and .u64 (IntKind.u64.wrap (-7)) 31 = 25 := by decide
  go_enter Tryd.func151, Tryd.ntmps151
  go_wp2
  go_ret
  exact ⟨by rw [orp7 x hx]; rfl, rfl⟩
set_option maxRecDepth 100000 in
set_option maxHeartbeats 400000 in
theorem turn7 (x : Nat) (w : World) (hx : x < 4294967296) :
    Calls Tryd.prog 143 #[.int .u32 x, .int .i64 7] w fun e w' => e = .returned (.int .u32 ((ror x 7 : Nat) : Int)) ∧ w = w' := by
  go_enter Tryd.func143, Tryd.ntmps143
  go_wp2_with fail
  refine (rot7 x _ hx).mono ?_
  rintro e w' ⟨rfl, rfl⟩
  go_wp2
  go_ret
  exact ⟨rfl, rfl⟩
set_option maxRecDepth 100000 in
set_option maxHeartbeats 400000 in
theorem dturn7 (x : Nat) (w : World) (hx : x < 4294967296) :
    Calls Tryd.prog 108 #[.int .u32 x, .int .u64 7] w fun e w' => e = .returned (.int .u32 ((ror x 7 : Nat) : Int)) ∧ w = w' := by
  go_enter Tryd.func108, Tryd.ntmps108
  go_wp2
  go_ret
  exact ⟨by rw [oru7 x hx]; rfl, rfl⟩

theorem orp11 (x : Nat) (hx : x < 4294967296) : bits .or .u32 ((x : Int) * 2097152 % 4294967296) ((x : Int) / 2048) = ((ror x 11 : Nat) : Int) := by
  have h1 : x * 2097152 % 4294967296 < 4294967296 := Nat.mod_lt _ (by decide)
  have h2 : x / 2048 < 4294967296 := Nat.lt_of_le_of_lt (Nat.div_le_self _ _) hx
  rw [show (x : Int) * 2097152 % 4294967296 = ((x * 2097152 % 4294967296 : Nat) : Int) by omega, show (x : Int) / 2048 = ((x / 2048 : Nat) : Int) by omega, u32_or_nat _ _ h1 h2, Nat.or_comm]
  rfl
theorem oru11 (x : Nat) (hx : x < 4294967296) : bits .or .u32 ((x : Int) / 2048) ((x : Int) * 2097152 % 4294967296) = ((ror x 11 : Nat) : Int) := by
  have h1 : x * 2097152 % 4294967296 < 4294967296 := Nat.mod_lt _ (by decide)
  have h2 : x / 2048 < 4294967296 := Nat.lt_of_le_of_lt (Nat.div_le_self _ _) hx
  rw [show (x : Int) * 2097152 % 4294967296 = ((x * 2097152 % 4294967296 : Nat) : Int) by omega, show (x : Int) / 2048 = ((x / 2048 : Nat) : Int) by omega, u32_or_nat _ _ h2 h1]
  rfl
set_option maxRecDepth 100000 in
set_option maxHeartbeats 400000 in
theorem rot11 (x : Nat) (w : World) (hx : x < 4294967296) :
    Calls Tryd.prog 151 #[.int .u32 x, .int .i64 (-11)] w fun e w' => e = .returned (.int .u32 ((ror x 11 : Nat) : Int)) ∧ w = w' := by
  have hb : bits .and .u64 (IntKind.u64.wrap (-11)) 31 = 21 := by decide
  go_enter Tryd.func151, Tryd.ntmps151
  go_wp2
  go_ret
  exact ⟨by rw [orp11 x hx]; rfl, rfl⟩
set_option maxRecDepth 100000 in
set_option maxHeartbeats 400000 in
theorem turn11 (x : Nat) (w : World) (hx : x < 4294967296) :
    Calls Tryd.prog 143 #[.int .u32 x, .int .i64 11] w fun e w' => e = .returned (.int .u32 ((ror x 11 : Nat) : Int)) ∧ w = w' := by
  go_enter Tryd.func143, Tryd.ntmps143
  go_wp2_with fail
  refine (rot11 x _ hx).mono ?_
  rintro e w' ⟨rfl, rfl⟩
  go_wp2
  go_ret
  exact ⟨rfl, rfl⟩
set_option maxRecDepth 100000 in
set_option maxHeartbeats 400000 in
theorem dturn11 (x : Nat) (w : World) (hx : x < 4294967296) :
    Calls Tryd.prog 108 #[.int .u32 x, .int .u64 11] w fun e w' => e = .returned (.int .u32 ((ror x 11 : Nat) : Int)) ∧ w = w' := by
  go_enter Tryd.func108, Tryd.ntmps108
  go_wp2
  go_ret
  exact ⟨by rw [oru11 x hx]; rfl, rfl⟩

theorem orp13 (x : Nat) (hx : x < 4294967296) : bits .or .u32 ((x : Int) * 524288 % 4294967296) ((x : Int) / 8192) = ((ror x 13 : Nat) : Int) := by
  have h1 : x * 524288 % 4294967296 < 4294967296 := Nat.mod_lt _ (by decide)
  have h2 : x / 8192 < 4294967296 := Nat.lt_of_le_of_lt (Nat.div_le_self _ _) hx
  rw [show (x : Int) * 524288 % 4294967296 = ((x * 524288 % 4294967296 : Nat) : Int) by omega, show (x : Int) / 8192 = ((x / 8192 : Nat) : Int) by omega, u32_or_nat _ _ h1 h2, Nat.or_comm]
  rfl
theorem oru13 (x : Nat) (hx : x < 4294967296) : bits .or .u32 ((x : Int) / 8192) ((x : Int) * 524288 % 4294967296) = ((ror x 13 : Nat) : Int) := by
  have h1 : x * 524288 % 4294967296 < 4294967296 := Nat.mod_lt _ (by decide)
  have h2 : x / 8192 < 4294967296 := Nat.lt_of_le_of_lt (Nat.div_le_self _ _) hx
  rw [show (x : Int) * 524288 % 4294967296 = ((x * 524288 % 4294967296 : Nat) : Int) by omega, show (x : Int) / 8192 = ((x / 8192 : Nat) : Int) by omega, u32_or_nat _ _ h2 h1]
  rfl
set_option maxRecDepth 100000 in
set_option maxHeartbeats 400000 in
theorem rot13 (x : Nat) (w : World) (hx : x < 4294967296) :
    Calls Tryd.prog 151 #[.int .u32 x, .int .i64 (-13)] w fun e w' => e = .returned (.int .u32 ((ror x 13 : Nat) : Int)) ∧ w = w' := by
  have hb : bits .and .u64 (IntKind.u64.wrap (-13)) 31 = 19 := by decide
  go_enter Tryd.func151, Tryd.ntmps151
  go_wp2
  go_ret
  exact ⟨by rw [orp13 x hx]; rfl, rfl⟩
set_option maxRecDepth 100000 in
set_option maxHeartbeats 400000 in
theorem turn13 (x : Nat) (w : World) (hx : x < 4294967296) :
    Calls Tryd.prog 143 #[.int .u32 x, .int .i64 13] w fun e w' => e = .returned (.int .u32 ((ror x 13 : Nat) : Int)) ∧ w = w' := by
  go_enter Tryd.func143, Tryd.ntmps143
  go_wp2_with fail
  refine (rot13 x _ hx).mono ?_
  rintro e w' ⟨rfl, rfl⟩
  go_wp2
  go_ret
  exact ⟨rfl, rfl⟩
set_option maxRecDepth 100000 in
set_option maxHeartbeats 400000 in
theorem dturn13 (x : Nat) (w : World) (hx : x < 4294967296) :
    Calls Tryd.prog 108 #[.int .u32 x, .int .u64 13] w fun e w' => e = .returned (.int .u32 ((ror x 13 : Nat) : Int)) ∧ w = w' := by
  go_enter Tryd.func108, Tryd.ntmps108
  go_wp2
  go_ret
  exact ⟨by rw [oru13 x hx]; rfl, rfl⟩

theorem orp17 (x : Nat) (hx : x < 4294967296) : bits .or .u32 ((x : Int) * 32768 % 4294967296) ((x : Int) / 131072) = ((ror x 17 : Nat) : Int) := by
  have h1 : x * 32768 % 4294967296 < 4294967296 := Nat.mod_lt _ (by decide)
  have h2 : x / 131072 < 4294967296 := Nat.lt_of_le_of_lt (Nat.div_le_self _ _) hx
  rw [show (x : Int) * 32768 % 4294967296 = ((x * 32768 % 4294967296 : Nat) : Int) by omega, show (x : Int) / 131072 = ((x / 131072 : Nat) : Int) by omega, u32_or_nat _ _ h1 h2, Nat.or_comm]
  rfl
theorem oru17 (x : Nat) (hx : x < 4294967296) : bits .or .u32 ((x : Int) / 131072) ((x : Int) * 32768 % 4294967296) = ((ror x 17 : Nat) : Int) := by
  have h1 : x * 32768 % 4294967296 < 4294967296 := Nat.mod_lt _ (by decide)
  have h2 : x / 131072 < 4294967296 := Nat.lt_of_le_of_lt (Nat.div_le_self _ _) hx
  rw [show (x : Int) * 32768 % 4294967296 = ((x * 32768 % 4294967296 : Nat) : Int) by omega, show (x : Int) / 131072 = ((x / 131072 : Nat) : Int) by omega, u32_or_nat _ _ h2 h1]
  rfl
set_option maxRecDepth 100000 in
set_option maxHeartbeats 400000 in
theorem rot17 (x : Nat) (w : World) (hx : x < 4294967296) :
    Calls Tryd.prog 151 #[.int .u32 x, .int .i64 (-17)] w fun e w' => e = .returned (.int .u32 ((ror x 17 : Nat) : Int)) ∧ w = w' := by
  have hb : bits .and .u64 (IntKind.u64.wrap (-17)) 31 = 15 := by decide
  go_enter Tryd.func151, Tryd.ntmps151
  go_wp2
  go_ret
  exact ⟨by rw [orp17 x hx]; rfl, rfl⟩
set_option maxRecDepth 100000 in
set_option maxHeartbeats 400000 in
theorem turn17 (x : Nat) (w : World) (hx : x < 4294967296) :
    Calls Tryd.prog 143 #[.int .u32 x, .int .i64 17] w fun e w' => e = .returned (.int .u32 ((ror x 17 : Nat) : Int)) ∧ w = w' := by
  go_enter Tryd.func143, Tryd.ntmps143
  go_wp2_with fail
  refine (rot17 x _ hx).mono ?_
  rintro e w' ⟨rfl, rfl⟩
  go_wp2
  go_ret
  exact ⟨rfl, rfl⟩
set_option maxRecDepth 100000 in
set_option maxHeartbeats 400000 in
theorem dturn17 (x : Nat) (w : World) (hx : x < 4294967296) :
    Calls Tryd.prog 108 #[.int .u32 x, .int .u64 17] w fun e w' => e = .returned (.int .u32 ((ror x 17 : Nat) : Int)) ∧ w = w' := by
  go_enter Tryd.func108, Tryd.ntmps108
  go_wp2
  go_ret
  exact ⟨by rw [oru17 x hx]; rfl, rfl⟩

theorem orp18 (x : Nat) (hx : x < 4294967296) : bits .or .u32 ((x : Int) * 16384 % 4294967296) ((x : Int) / 262144) = ((ror x 18 : Nat) : Int) := by
  have h1 : x * 16384 % 4294967296 < 4294967296 := Nat.mod_lt _ (by decide)
  have h2 : x / 262144 < 4294967296 := Nat.lt_of_le_of_lt (Nat.div_le_self _ _) hx
  rw [show (x : Int) * 16384 % 4294967296 = ((x * 16384 % 4294967296 : Nat) : Int) by omega, show (x : Int) / 262144 = ((x / 262144 : Nat) : Int) by omega, u32_or_nat _ _ h1 h2, Nat.or_comm]
  rfl
theorem oru18 (x : Nat) (hx : x < 4294967296) : bits .or .u32 ((x : Int) / 262144) ((x : Int) * 16384 % 4294967296) = ((ror x 18 : Nat) : Int) := by
  have h1 : x * 16384 % 4294967296 < 4294967296 := Nat.mod_lt _ (by decide)
  have h2 : x / 262144 < 4294967296 := Nat.lt_of_le_of_lt (Nat.div_le_self _ _) hx
  rw [show (x : Int) * 16384 % 4294967296 = ((x * 16384 % 4294967296 : Nat) : Int) by omega, show (x : Int) / 262144 = ((x / 262144 : Nat) : Int) by omega, u32_or_nat _ _ h2 h1]
  rfl
set_option maxRecDepth 100000 in
set_option maxHeartbeats 400000 in
theorem rot18 (x : Nat) (w : World) (hx : x < 4294967296) :
    Calls Tryd.prog 151 #[.int .u32 x, .int .i64 (-18)] w fun e w' => e = .returned (.int .u32 ((ror x 18 : Nat) : Int)) ∧ w = w' := by
  have hb : bits .and .u64 (IntKind.u64.wrap (-18)) 31 = 14 := by decide
  go_enter Tryd.func151, Tryd.ntmps151
  go_wp2
  go_ret
  exact ⟨by rw [orp18 x hx]; rfl, rfl⟩
set_option maxRecDepth 100000 in
set_option maxHeartbeats 400000 in
theorem turn18 (x : Nat) (w : World) (hx : x < 4294967296) :
    Calls Tryd.prog 143 #[.int .u32 x, .int .i64 18] w fun e w' => e = .returned (.int .u32 ((ror x 18 : Nat) : Int)) ∧ w = w' := by
  go_enter Tryd.func143, Tryd.ntmps143
  go_wp2_with fail
  refine (rot18 x _ hx).mono ?_
  rintro e w' ⟨rfl, rfl⟩
  go_wp2
  go_ret
  exact ⟨rfl, rfl⟩
set_option maxRecDepth 100000 in
set_option maxHeartbeats 400000 in
theorem dturn18 (x : Nat) (w : World) (hx : x < 4294967296) :
    Calls Tryd.prog 108 #[.int .u32 x, .int .u64 18] w fun e w' => e = .returned (.int .u32 ((ror x 18 : Nat) : Int)) ∧ w = w' := by
  go_enter Tryd.func108, Tryd.ntmps108
  go_wp2
  go_ret
  exact ⟨by rw [oru18 x hx]; rfl, rfl⟩

theorem orp19 (x : Nat) (hx : x < 4294967296) : bits .or .u32 ((x : Int) * 8192 % 4294967296) ((x : Int) / 524288) = ((ror x 19 : Nat) : Int) := by
  have h1 : x * 8192 % 4294967296 < 4294967296 := Nat.mod_lt _ (by decide)
  have h2 : x / 524288 < 4294967296 := Nat.lt_of_le_of_lt (Nat.div_le_self _ _) hx
  rw [show (x : Int) * 8192 % 4294967296 = ((x * 8192 % 4294967296 : Nat) : Int) by omega, show (x : Int) / 524288 = ((x / 524288 : Nat) : Int) by omega, u32_or_nat _ _ h1 h2, Nat.or_comm]
  rfl
theorem oru19 (x : Nat) (hx : x < 4294967296) : bits .or .u32 ((x : Int) / 524288) ((x : Int) * 8192 % 4294967296) = ((ror x 19 : Nat) : Int) := by
  have h1 : x * 8192 % 4294967296 < 4294967296 := Nat.mod_lt _ (by decide)
  have h2 : x / 524288 < 4294967296 := Nat.lt_of_le_of_lt (Nat.div_le_self _ _) hx
  rw [show (x : Int) * 8192 % 4294967296 = ((x * 8192 % 4294967296 : Nat) : Int) by omega, show (x : Int) / 524288 = ((x / 524288 : Nat) : Int) by omega, u32_or_nat _ _ h2 h1]
  rfl
set_option maxRecDepth 100000 in
set_option maxHeartbeats 400000 in
theorem rot19 (x : Nat) (w : World) (hx : x < 4294967296) :
    Calls Tryd.prog 151 #[.int .u32 x, .int .i64 (-19)] w fun e w' => e = .returned (.int .u32 ((ror x 19 : Nat) : Int)) ∧ w = w' := by
  have hb : bits .and .u64 (IntKind.u64.wrap (-19)) 31 = 13 := by decide
  go_enter Tryd.func151, Tryd.ntmps151
  go_wp2
  go_ret
  exact ⟨by rw [orp19 x hx]; rfl, rfl⟩
set_option maxRecDepth 100000 in
set_option maxHeartbeats 400000 in
theorem turn19 (x : Nat) (w : World) (hx : x < 4294967296) :
    Calls Tryd.prog 143 #[.int .u32 x, .int .i64 19] w fun e w' => e = .returned (.int .u32 ((ror x 19 : Nat) : Int)) ∧ w = w' := by
  go_enter Tryd.func143, Tryd.ntmps143
  go_wp2_with fail
  refine (rot19 x _ hx).mono ?_
  rintro e w' ⟨rfl, rfl⟩
  go_wp2
  go_ret
  exact ⟨rfl, rfl⟩
set_option maxRecDepth 100000 in
set_option maxHeartbeats 400000 in
theorem dturn19 (x : Nat) (w : World) (hx : x < 4294967296) :
    Calls Tryd.prog 108 #[.int .u32 x, .int .u64 19] w fun e w' => e = .returned (.int .u32 ((ror x 19 : Nat) : Int)) ∧ w = w' := by
  go_enter Tryd.func108, Tryd.ntmps108
  go_wp2
  go_ret
  exact ⟨by rw [oru19 x hx]; rfl, rfl⟩

theorem orp22 (x : Nat) (hx : x < 4294967296) : bits .or .u32 ((x : Int) * 1024 % 4294967296) ((x : Int) / 4194304) = ((ror x 22 : Nat) : Int) := by
  have h1 : x * 1024 % 4294967296 < 4294967296 := Nat.mod_lt _ (by decide)
  have h2 : x / 4194304 < 4294967296 := Nat.lt_of_le_of_lt (Nat.div_le_self _ _) hx
  rw [show (x : Int) * 1024 % 4294967296 = ((x * 1024 % 4294967296 : Nat) : Int) by omega, show (x : Int) / 4194304 = ((x / 4194304 : Nat) : Int) by omega, u32_or_nat _ _ h1 h2, Nat.or_comm]
  rfl
theorem oru22 (x : Nat) (hx : x < 4294967296) : bits .or .u32 ((x : Int) / 4194304) ((x : Int) * 1024 % 4294967296) = ((ror x 22 : Nat) : Int) := by
  have h1 : x * 1024 % 4294967296 < 4294967296 := Nat.mod_lt _ (by decide)
  have h2 : x / 4194304 < 4294967296 := Nat.lt_of_le_of_lt (Nat.div_le_self _ _) hx
  rw [show (x : Int) * 1024 % 4294967296 = ((x * 1024 % 4294967296 : Nat) : Int) by omega, show (x : Int) / 4194304 = ((x / 4194304 : Nat) : Int) by omega, u32_or_nat _ _ h2 h1]
  rfl
set_option maxRecDepth 100000 in
set_option maxHeartbeats 400000 in
theorem rot22 (x : Nat) (w : World) (hx : x < 4294967296) :
    Calls Tryd.prog 151 #[.int .u32 x, .int .i64 (-22)] w fun e w' => e = .returned (.int .u32 ((ror x 22 : Nat) : Int)) ∧ w = w' := by
  have hb : bits .and .u64 (IntKind.u64.wrap (-22)) 31 = 10 := by decide
  go_enter Tryd.func151, Tryd.ntmps151
  go_wp2
  go_ret
  exact ⟨by rw [orp22 x hx]; rfl, rfl⟩
set_option maxRecDepth 100000 in
set_option maxHeartbeats 400000 in
theorem turn22 (x : Nat) (w : World) (hx : x < 4294967296) :
    Calls Tryd.prog 143 #[.int .u32 x, .int .i64 22] w fun e w' => e = .returned (.int .u32 ((ror x 22 : Nat) : Int)) ∧ w = w' := by
  go_enter Tryd.func143, Tryd.ntmps143
  go_wp2_with fail
  refine (rot22 x _ hx).mono ?_
  rintro e w' ⟨rfl, rfl⟩
  go_wp2
  go_ret
  exact ⟨rfl, rfl⟩
set_option maxRecDepth 100000 in
set_option maxHeartbeats 400000 in
theorem dturn22 (x : Nat) (w : World) (hx : x < 4294967296) :
    Calls Tryd.prog 108 #[.int .u32 x, .int .u64 22] w fun e w' => e = .returned (.int .u32 ((ror x 22 : Nat) : Int)) ∧ w = w' := by
  go_enter Tryd.func108, Tryd.ntmps108
  go_wp2
  go_ret
  exact ⟨by rw [oru22 x hx]; rfl, rfl⟩

theorem orp25 (x : Nat) (hx : x < 4294967296) : bits .or .u32 ((x : Int) * 128 % 4294967296) ((x : Int) / 33554432) = ((ror x 25 : Nat) : Int) := by
  have h1 : x * 128 % 4294967296 < 4294967296 := Nat.mod_lt _ (by decide)
  have h2 : x / 33554432 < 4294967296 := Nat.lt_of_le_of_lt (Nat.div_le_self _ _) hx
  rw [show (x : Int) * 128 % 4294967296 = ((x * 128 % 4294967296 : Nat) : Int) by omega, show (x : Int) / 33554432 = ((x / 33554432 : Nat) : Int) by omega, u32_or_nat _ _ h1 h2, Nat.or_comm]
  rfl
theorem oru25 (x : Nat) (hx : x < 4294967296) : bits .or .u32 ((x : Int) / 33554432) ((x : Int) * 128 % 4294967296) = ((ror x 25 : Nat) : Int) := by
  have h1 : x * 128 % 4294967296 < 4294967296 := Nat.mod_lt _ (by decide)
  have h2 : x / 33554432 < 4294967296 := Nat.lt_of_le_of_lt (Nat.div_le_self _ _) hx
  rw [show (x : Int) * 128 % 4294967296 = ((x * 128 % 4294967296 : Nat) : Int) by omega, show (x : Int) / 33554432 = ((x / 33554432 : Nat) : Int) by omega, u32_or_nat _ _ h2 h1]
  rfl
set_option maxRecDepth 100000 in
set_option maxHeartbeats 400000 in
theorem rot25 (x : Nat) (w : World) (hx : x < 4294967296) :
    Calls Tryd.prog 151 #[.int .u32 x, .int .i64 (-25)] w fun e w' => e = .returned (.int .u32 ((ror x 25 : Nat) : Int)) ∧ w = w' := by
  have hb : bits .and .u64 (IntKind.u64.wrap (-25)) 31 = 7 := by decide
  go_enter Tryd.func151, Tryd.ntmps151
  go_wp2
  go_ret
  exact ⟨by rw [orp25 x hx]; rfl, rfl⟩
set_option maxRecDepth 100000 in
set_option maxHeartbeats 400000 in
theorem turn25 (x : Nat) (w : World) (hx : x < 4294967296) :
    Calls Tryd.prog 143 #[.int .u32 x, .int .i64 25] w fun e w' => e = .returned (.int .u32 ((ror x 25 : Nat) : Int)) ∧ w = w' := by
  go_enter Tryd.func143, Tryd.ntmps143
  go_wp2_with fail
  refine (rot25 x _ hx).mono ?_
  rintro e w' ⟨rfl, rfl⟩
  go_wp2
  go_ret
  exact ⟨rfl, rfl⟩
set_option maxRecDepth 100000 in
set_option maxHeartbeats 400000 in
theorem dturn25 (x : Nat) (w : World) (hx : x < 4294967296) :
    Calls Tryd.prog 108 #[.int .u32 x, .int .u64 25] w fun e w' => e = .returned (.int .u32 ((ror x 25 : Nat) : Int)) ∧ w = w' := by
  go_enter Tryd.func108, Tryd.ntmps108
  go_wp2
  go_ret
  exact ⟨by rw [oru25 x hx]; rfl, rfl⟩

theorem xor3 (a b c : Nat) (ha : a < 4294967296) (hb : b < 4294967296) (hc : c < 4294967296) :
    bits .xor .u32 (bits .xor .u32 (a : Int) (b : Int)) (c : Int) = ((a ^^^ b ^^^ c : Nat) : Int) := by
  rw [u32_xor_nat _ _ ha hb, u32_xor_nat _ _ (xor32 ha hb) hc]

set_option maxRecDepth 100000 in
set_option maxHeartbeats 400000 in
theorem mixE_any (x : Nat) (w : World) (hx : x < 4294967296) :
    Calls Tryd.prog 130 #[.int .u32 x] w fun e w' => e = .returned (.int .u32 ((sb1 x : Nat) : Int)) ∧ w = w' := by
  go_enter Tryd.func130, Tryd.ntmps130
  go_wp2_with fail
  refine (turn6 x _ hx).mono ?_
  rintro e w' ⟨rfl, rfl⟩
  go_wp2_with fail
  refine (turn11 x _ hx).mono ?_
  rintro e w' ⟨rfl, rfl⟩
  go_wp2_with fail
  refine (turn25 x _ hx).mono ?_
  rintro e w' ⟨rfl, rfl⟩
  go_wp2
  go_ret
  exact ⟨by rw [xor3 _ _ _ (ror32 _ hx) (ror32 _ hx) (ror32 _ hx)]; rfl, rfl⟩

set_option maxRecDepth 100000 in
set_option maxHeartbeats 400000 in
theorem three_mixE (x : Nat) (w : World) (hx : x < 4294967296) :
    Calls Tryd.prog 109 #[.int .u32 x, .int .u64 6, .int .u64 11, .int .u64 25] w fun e w' => e = .returned (.int .u32 ((sb1 x : Nat) : Int)) ∧ w = w' := by
  go_enter Tryd.func109, Tryd.ntmps109
  go_wp2_with fail
  refine (dturn6 x _ hx).mono ?_
  rintro e w' ⟨rfl, rfl⟩
  go_wp2_with fail
  refine (dturn11 x _ hx).mono ?_
  rintro e w' ⟨rfl, rfl⟩
  go_wp2_with fail
  refine (dturn25 x _ hx).mono ?_
  rintro e w' ⟨rfl, rfl⟩
  go_wp2
  go_ret
  exact ⟨by rw [xor3 _ _ _ (ror32 _ hx) (ror32 _ hx) (ror32 _ hx)]; rfl, rfl⟩

set_option maxRecDepth 100000 in
set_option maxHeartbeats 400000 in
theorem mixA_any (x : Nat) (w : World) (hx : x < 4294967296) :
    Calls Tryd.prog 131 #[.int .u32 x] w fun e w' => e = .returned (.int .u32 ((sb0 x : Nat) : Int)) ∧ w = w' := by
  go_enter Tryd.func131, Tryd.ntmps131
  go_wp2_with fail
  refine (turn2 x _ hx).mono ?_
  rintro e w' ⟨rfl, rfl⟩
  go_wp2_with fail
  refine (turn13 x _ hx).mono ?_
  rintro e w' ⟨rfl, rfl⟩
  go_wp2_with fail
  refine (turn22 x _ hx).mono ?_
  rintro e w' ⟨rfl, rfl⟩
  go_wp2
  go_ret
  exact ⟨by rw [xor3 _ _ _ (ror32 _ hx) (ror32 _ hx) (ror32 _ hx)]; rfl, rfl⟩

set_option maxRecDepth 100000 in
set_option maxHeartbeats 400000 in
theorem three_mixA (x : Nat) (w : World) (hx : x < 4294967296) :
    Calls Tryd.prog 109 #[.int .u32 x, .int .u64 2, .int .u64 13, .int .u64 22] w fun e w' => e = .returned (.int .u32 ((sb0 x : Nat) : Int)) ∧ w = w' := by
  go_enter Tryd.func109, Tryd.ntmps109
  go_wp2_with fail
  refine (dturn2 x _ hx).mono ?_
  rintro e w' ⟨rfl, rfl⟩
  go_wp2_with fail
  refine (dturn13 x _ hx).mono ?_
  rintro e w' ⟨rfl, rfl⟩
  go_wp2_with fail
  refine (dturn22 x _ hx).mono ?_
  rintro e w' ⟨rfl, rfl⟩
  go_wp2
  go_ret
  exact ⟨by rw [xor3 _ _ _ (ror32 _ hx) (ror32 _ hx) (ror32 _ hx)]; rfl, rfl⟩
end Go.Proofs.YtdhaanaenklleaaDoor.S
