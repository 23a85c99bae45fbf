/- Plain lemmas of numbers and lists of bytes for package code: no walk stands here; Plain lemmas of words of 32 bits for package sha: no walk stands here; Walks: words that are turned; Walks: a number's bytes; Walks: the document's number, a part, two lists held against each other; Walks: lists of strings: whether two are the same; whether one is great; Contracts of the library for this seat, laid by hand; Walks: texts are joined; Walks: the document's Join; Rows of whole numbers in memory; A region that draws its order, holds calls that make memory, and ends in operations whose order is forced: walked once; Walks: the rounds' numbers; Plain lemmas: a block's words, its rounds; Walks: a block's words; Plain lemmas: the rounds over a block's words; the state behind a block; Walks: a block is taken into the state; Walks: the document's state behind a block; Walks: the digest out of a state; Walks: a digest in digits; Whole rows of bytes: a text is copied into one, a row is cleared. -/
import Derived.Laws.BitsAllLaws
import Derived.Lib.Strings
import Derived.Test.YtdhaanaenklleaaGreatDoorProg
import Derived.WalkKit
import Derived.ProofKit
import Derived.OpenShut
import Derived.WalkSpells
import Derived.WalkLawsBesides
import Derived.Below
import Derived.Deep.DeepFit
import Derived.RegionTactic
import Derived.ChangeAlike
import Derived.Deep.QuietTactic
import Derived.Deep.LoopGhost
import Derived.BigQuiet
import Derived.Laws.MakeOwn
import Derived.Laws.AppendOwn
import Derived.Deep.DeepMust
import Derived.Maps.AppendAt
import Derived.Test.YtdhaanaenklleaaGreatDoorQ1
import Derived.Lib.SlBytesRow
import Derived.Test.YtdhaanaenklleaaGreatDoorSh
import Derived.Laws.Rows
import Derived.Laws.Tables
import Derived.StillTail
import Derived.Deep.WholeRow
import Derived.Great.BuildSlice
import Derived.Laws.CopyOwn
import Derived.Lib.BufferWrite
import Derived.Lib.SliceRun
namespace Go.Proofs.YtdhaanaenklleaaGreatDoor.S

/-- The number that bytes are, the highest first. -/
def be (l : List UInt8) : Nat := l.foldl (fun a b => 256 * a + b.toNat) 0

end Go.Proofs.YtdhaanaenklleaaGreatDoor.S
namespace Go.Proofs.YtdhaanaenklleaaGreatDoor.S

def ror (x k : Nat) : Nat := (x / 2 ^ k) ||| (x * 2 ^ (32 - k) % 4294967296)
def sb1 (e : Nat) : Nat := ror e 6 ^^^ ror e 11 ^^^ ror e 25
def sb0 (a : Nat) : Nat := ror a 2 ^^^ ror a 13 ^^^ ror a 22
def ss0 (x : Nat) : Nat := ror x 7 ^^^ ror x 18 ^^^ (x / 8)
def ss1 (x : Nat) : Nat := ror x 17 ^^^ ror x 19 ^^^ (x / 1024)
def ch (e f g : Nat) : Nat := (e &&& f) ^^^ ((4294967295 - e) &&& g)
def maj (a b c : Nat) : Nat := (a &&& b) ^^^ (a &&& c) ^^^ (b &&& c)

theorem or32 {a b : Nat} (ha : a < 4294967296) (hb : b < 4294967296) : a ||| b < 4294967296 := Nat.or_lt_two_pow (n := 32) ha hb
theorem xor32 {a b : Nat} (ha : a < 4294967296) (hb : b < 4294967296) : a ^^^ b < 4294967296 := Nat.xor_lt_two_pow (n := 32) ha hb
theorem and32 {a b : Nat} (ha : a < 4294967296) : a &&& b < 4294967296 := Nat.lt_of_le_of_lt Nat.and_le_left ha
theorem ror32 {x : Nat} (k : Nat) (hx : x < 4294967296) : ror x k < 4294967296 := or32 (Nat.lt_of_le_of_lt (Nat.div_le_self _ _) hx) (Nat.mod_lt _ (by decide))
theorem wrap32 (n : Nat) : IntKind.u32.wrap (n : Int) = ((n % 4294967296 : Nat) : Int) := by rw [IntKind.wrap_u32']; omega
theorem wrap32_small (n : Nat) (h : n < 4294967296) : IntKind.u32.wrap (n : Int) = (n : Int) := by rw [wrap32, Nat.mod_eq_of_lt h]
end Go.Proofs.YtdhaanaenklleaaGreatDoor.S
namespace Go.Proofs.YtdhaanaenklleaaGreatDoor.S
set_option linter.unusedVariables false
open Go.ChangeShapes Go.WideShapes Go.ChangeAt Go.RowKit

theorem orp2 (x : Nat) (hx : x < 4294967296) : bits .or .u32 ((x : Int) * 1073741824 % 4294967296) ((x : Int) / 4) = ((ror x 2 : Nat) : Int) := by
  have h1 : x * 1073741824 % 4294967296 < 4294967296 := Nat.mod_lt _ (by decide)
  have h2 : x / 4 < 4294967296 := Nat.lt_of_le_of_lt (Nat.div_le_self _ _) hx
  rw [show (x : Int) * 1073741824 % 4294967296 = ((x * 1073741824 % 4294967296 : Nat) : Int) by omega, show (x : Int) / 4 = ((x / 4 : Nat) : Int) by omega, u32_or_nat _ _ h1 h2, Nat.or_comm]
  rfl
theorem oru2 (x : Nat) (hx : x < 4294967296) : bits .or .u32 ((x : Int) / 4) ((x : Int) * 1073741824 % 4294967296) = ((ror x 2 : Nat) : Int) := by
  have h1 : x * 1073741824 % 4294967296 < 4294967296 := Nat.mod_lt _ (by decide)
  have h2 : x / 4 < 4294967296 := Nat.lt_of_le_of_lt (Nat.div_le_self _ _) hx
  rw [show (x : Int) * 1073741824 % 4294967296 = ((x * 1073741824 % 4294967296 : Nat) : Int) by omega, show (x : Int) / 4 = ((x / 4 : Nat) : Int) by omega, u32_or_nat _ _ h2 h1]
  rfl
set_option maxRecDepth 100000 in
set_option maxHeartbeats 400000 in
theorem rot2 (x : Nat) (w : World) (hx : x < 4294967296) :
    Calls Tryz.prog 135 #[.int .u32 x, .int .i64 (-2)] w fun e w' => e = .returned (.int .u32 ((ror x 2 : Nat) : Int)) ∧ w = w' := by
  have hb : bits .and .u64 (IntKind.u64.wrap (-2)) 31 = 30 := by decide
  go_enter Tryz.func135, Tryz.ntmps135
  go_wp2
  go_ret
  exact ⟨by rw [orp2 x hx]; rfl, rfl⟩
set_option maxRecDepth 100000 in
set_option maxHeartbeats 400000 in
theorem turn2 (x : Nat) (w : World) (hx : x < 4294967296) :
    Calls Tryz.prog 128 #[.int .u32 x, .int .i64 2] w fun e w' => e = .returned (.int .u32 ((ror x 2 : Nat) : Int)) ∧ w = w' := by
  go_enter Tryz.func128, Tryz.ntmps128
  go_wp2_with fail
  refine (rot2 x _ hx).mono ?_
  rintro e w' ⟨rfl, rfl⟩
  go_wp2
  go_ret
  exact ⟨rfl, rfl⟩
set_option maxRecDepth 100000 in
set_option maxHeartbeats 400000 in
theorem dturn2 (x : Nat) (w : World) (hx : x < 4294967296) :
    Calls Tryz.prog 120 #[.int .u32 x, .int .u64 2] w fun e w' => e = .returned (.int .u32 ((ror x 2 : Nat) : Int)) ∧ w = w' := by
  go_enter Tryz.func120, Tryz.ntmps120
  go_wp2
  go_ret
  exact ⟨by rw [oru2 x hx]; rfl, rfl⟩

theorem orp6 (x : Nat) (hx : x < 4294967296) : bits .or .u32 ((x : Int) * 67108864 % 4294967296) ((x : Int) / 64) = ((ror x 6 : Nat) : Int) := by
  have h1 : x * 67108864 % 4294967296 < 4294967296 := Nat.mod_lt _ (by decide)
  have h2 : x / 64 < 4294967296 := Nat.lt_of_le_of_lt (Nat.div_le_self _ _) hx
  rw [show (x : Int) * 67108864 % 4294967296 = ((x * 67108864 % 4294967296 : Nat) : Int) by omega, show (x : Int) / 64 = ((x / 64 : Nat) : Int) by omega, u32_or_nat _ _ h1 h2, Nat.or_comm]
  rfl
theorem oru6 (x : Nat) (hx : x < 4294967296) : bits .or .u32 ((x : Int) / 64) ((x : Int) * 67108864 % 4294967296) = ((ror x 6 : Nat) : Int) := by
  have h1 : x * 67108864 % 4294967296 < 4294967296 := Nat.mod_lt _ (by decide)
  have h2 : x / 64 < 4294967296 := Nat.lt_of_le_of_lt (Nat.div_le_self _ _) hx
  rw [show (x : Int) * 67108864 % 4294967296 = ((x * 67108864 % 4294967296 : Nat) : Int) by omega, show (x : Int) / 64 = ((x / 64 : Nat) : Int) by omega, u32_or_nat _ _ h2 h1]
  rfl
set_option maxRecDepth 100000 in
set_option maxHeartbeats 400000 in
theorem rot6 (x : Nat) (w : World) (hx : x < 4294967296) :
    Calls Tryz.prog 135 #[.int .u32 x, .int .i64 (-6)] w fun e w' => e = .returned (.int .u32 ((ror x 6 : Nat) : Int)) ∧ w = w' := by
  have hb : bits .and .u64 (IntKind.u64.wrap (-6)) 31 = 26 := by decide
  go_enter Tryz.func135, Tryz.ntmps135
  go_wp2
  go_ret
  exact ⟨by rw [orp6 x hx]; rfl, rfl⟩
set_option maxRecDepth 100000 in
set_option maxHeartbeats 400000 in
theorem turn6 (x : Nat) (w : World) (hx : x < 4294967296) :
    Calls Tryz.prog 128 #[.int .u32 x, .int .i64 6] w fun e w' => e = .returned (.int .u32 ((ror x 6 : Nat) : Int)) ∧ w = w' := by
  go_enter Tryz.func128, Tryz.ntmps128
  go_wp2_with fail
  refine (rot6 x _ hx).mono ?_
  rintro e w' ⟨rfl, rfl⟩
  go_wp2
  go_ret
  exact ⟨rfl, rfl⟩
set_option maxRecDepth 100000 in
set_option maxHeartbeats 400000 in
theorem dturn6 (x : Nat) (w : World) (hx : x < 4294967296) :
    Calls Tryz.prog 120 #[.int .u32 x, .int .u64 6] w fun e w' => e = .returned (.int .u32 ((ror x 6 : Nat) : Int)) ∧ w = w' := by
  go_enter Tryz.func120, Tryz.ntmps120
  go_wp2
  go_ret
  exact ⟨by rw [oru6 x hx]; rfl, rfl⟩

theorem orp7 (x : Nat) (hx : x < 4294967296) : bits .or .u32 ((x : Int) * 33554432 % 4294967296) ((x : Int) / 128) = ((ror x 7 : Nat) : Int) := by
  have h1 : x * 33554432 % 4294967296 < 4294967296 := Nat.mod_lt _ (by decide)
  have h2 : x / 128 < 4294967296 := Nat.lt_of_le_of_lt (Nat.div_le_self _ _) hx
  rw [show (x : Int) * 33554432 % 4294967296 = ((x * 33554432 % 4294967296 : Nat) : Int) by omega, show (x : Int) / 128 = ((x / 128 : Nat) : Int) by omega, u32_or_nat _ _ h1 h2, Nat.or_comm]
  rfl
theorem oru7 (x : Nat) (hx : x < 4294967296) : bits .or .u32 ((x : Int) / 128) ((x : Int) * 33554432 % 4294967296) = ((ror x 7 : Nat) : Int) := by
  have h1 : x * 33554432 % 4294967296 < 4294967296 := Nat.mod_lt _ (by decide)
  have h2 : x / 128 < 4294967296 := Nat.lt_of_le_of_lt (Nat.div_le_self _ _) hx
  rw [show (x : Int) * 33554432 % 4294967296 = ((x * 33554432 % 4294967296 : Nat) : Int) by omega, show (x : Int) / 128 = ((x / 128 : Nat) : Int) by omega, u32_or_nat _ _ h2 h1]
  rfl
set_option maxRecDepth 100000 in
set_option maxHeartbeats 400000 in
theorem rot7 (x : Nat) (w : World) (hx : x < 4294967296) :
    Calls Tryz.prog 135 #[.int .u32 x, .int .i64 (-7)] w fun e w' => e = .returned (.int .u32 ((ror x 7 : Nat) : Int)) ∧ w = w' := by
  have hb : bits .and .u64 (IntKind.u64.wrap (-7)) 31 = 25 := by decide
  go_enter Tryz.func135, Tryz.ntmps135
  go_wp2
  go_ret
  exact ⟨by rw [orp7 x hx]; rfl, rfl⟩
set_option maxRecDepth 100000 in
set_option maxHeartbeats 400000 in
theorem turn7 (x : Nat) (w : World) (hx : x < 4294967296) :
    Calls Tryz.prog 128 #[.int .u32 x, .int .i64 7] w fun e w' => e = .returned (.int .u32 ((ror x 7 : Nat) : Int)) ∧ w = w' := by
  go_enter Tryz.func128, Tryz.ntmps128
  go_wp2_with fail
  refine (rot7 x _ hx).mono ?_
  rintro e w' ⟨rfl, rfl⟩
  go_wp2
  go_ret
  exact ⟨rfl, rfl⟩
set_option maxRecDepth 100000 in
set_option maxHeartbeats 400000 in
theorem dturn7 (x : Nat) (w : World) (hx : x < 4294967296) :
    Calls Tryz.prog 120 #[.int .u32 x, .int .u64 7] w fun e w' => e = .returned (.int .u32 ((ror x 7 : Nat) : Int)) ∧ w = w' := by
  go_enter Tryz.func120, Tryz.ntmps120
  go_wp2
  go_ret
  exact ⟨by rw [oru7 x hx]; rfl, rfl⟩

theorem orp11 (x : Nat) (hx : x < 4294967296) : bits .or .u32 ((x : Int) * 2097152 % 4294967296) ((x : Int) / 2048) = ((ror x 11 : Nat) : Int) := by
  have h1 : x * 2097152 % 4294967296 < 4294967296 := Nat.mod_lt _ (by decide)
  have h2 : x / 2048 < 4294967296 := Nat.lt_of_le_of_lt (Nat.div_le_self _ _) hx
  rw [show (x : Int) * 2097152 % 4294967296 = ((x * 2097152 % 4294967296 : Nat) : Int) by omega, show (x : Int) / 2048 = ((x / 2048 : Nat) : Int) by omega, u32_or_nat _ _ h1 h2, Nat.or_comm]
  rfl
theorem oru11 (x : Nat) (hx : x < 4294967296) : bits .or .u32 ((x : Int) / 2048) ((x : Int) * 2097152 % 4294967296) = ((ror x 11 : Nat) : Int) := by
  have h1 : x * 2097152 % 4294967296 < 4294967296 := Nat.mod_lt _ (by decide)
  have h2 : x / 2048 < 4294967296 := Nat.lt_of_le_of_lt (Nat.div_le_self _ _) hx
  rw [show (x : Int) * 2097152 % 4294967296 = ((x * 2097152 % 4294967296 : Nat) : Int) by omega, show (x : Int) / 2048 = ((x / 2048 : Nat) : Int) by omega, u32_or_nat _ _ h2 h1]
  rfl
set_option maxRecDepth 100000 in
set_option maxHeartbeats 400000 in
theorem rot11 (x : Nat) (w : World) (hx : x < 4294967296) :
    Calls Tryz.prog 135 #[.int .u32 x, .int .i64 (-11)] w fun e w' => e = .returned (.int .u32 ((ror x 11 : Nat) : Int)) ∧ w = w' := by
  have hb : bits .and .u64 (IntKind.u64.wrap (-11)) 31 = 21 := by decide
  go_enter Tryz.func135, Tryz.ntmps135
  go_wp2
  go_ret
  exact ⟨by rw [orp11 x hx]; rfl, rfl⟩
set_option maxRecDepth 100000 in
set_option maxHeartbeats 400000 in
theorem turn11 (x : Nat) (w : World) (hx : x < 4294967296) :
    Calls Tryz.prog 128 #[.int .u32 x, .int .i64 11] w fun e w' => e = .returned (.int .u32 ((ror x 11 : Nat) : Int)) ∧ w = w' := by
  go_enter Tryz.func128, Tryz.ntmps128
  go_wp2_with fail
  refine (rot11 x _ hx).mono ?_
  rintro e w' ⟨rfl, rfl⟩
  go_wp2
  go_ret
  exact ⟨rfl, rfl⟩
set_option maxRecDepth 100000 in
set_option maxHeartbeats 400000 in
theorem dturn11 (x : Nat) (w : World) (hx : x < 4294967296) :
    Calls Tryz.prog 120 #[.int .u32 x, .int .u64 11] w fun e w' => e = .returned (.int .u32 ((ror x 11 : Nat) : Int)) ∧ w = w' := by
  go_enter Tryz.func120, Tryz.ntmps120
  go_wp2
  go_ret
  exact ⟨by rw [oru11 x hx]; rfl, rfl⟩

theorem orp13 (x : Nat) (hx : x < 4294967296) : bits .or .u32 ((x : Int) * 524288 % 4294967296) ((x : Int) / 8192) = ((ror x 13 : Nat) : Int) := by
  have h1 : x * 524288 % 4294967296 < 4294967296 := Nat.mod_lt _ (by decide)
  have h2 : x / 8192 < 4294967296 := Nat.lt_of_le_of_lt (Nat.div_le_self _ _) hx
  rw [show (x : Int) * 524288 % 4294967296 = ((x * 524288 % 4294967296 : Nat) : Int) by omega, show (x : Int) / 8192 = ((x / 8192 : Nat) : Int) by omega, u32_or_nat _ _ h1 h2, Nat.or_comm]
  rfl
theorem oru13 (x : Nat) (hx : x < 4294967296) : bits .or .u32 ((x : Int) / 8192) ((x : Int) * 524288 % 4294967296) = ((ror x 13 : Nat) : Int) := by
  have h1 : x * 524288 % 4294967296 < 4294967296 := Nat.mod_lt _ (by decide)
  have h2 : x / 8192 < 4294967296 := Nat.lt_of_le_of_lt (Nat.div_le_self _ _) hx
  rw [show (x : Int) * 524288 % 4294967296 = ((x * 524288 % 4294967296 : Nat) : Int) by omega, show (x : Int) / 8192 = ((x / 8192 : Nat) : Int) by omega, u32_or_nat _ _ h2 h1]
  rfl
set_option maxRecDepth 100000 in
set_option maxHeartbeats 400000 in
theorem rot13 (x : Nat) (w : World) (hx : x < 4294967296) :
    Calls Tryz.prog 135 #[.int .u32 x, .int .i64 (-13)] w fun e w' => e = .returned (.int .u32 ((ror x 13 : Nat) : Int)) ∧ w = w' := by
  have hb : bits .and .u64 (IntKind.u64.wrap (-13)) 31 = 19 := by decide
  go_enter Tryz.func135, Tryz.ntmps135
  go_wp2
  go_ret
  exact ⟨by rw [orp13 x hx]; rfl, rfl⟩
set_option maxRecDepth 100000 in
set_option maxHeartbeats 400000 in
theorem turn13 (x : Nat) (w : World) (hx : x < 4294967296) :
    Calls Tryz.prog 128 #[.int .u32 x, .int .i64 13] w fun e w' => e = .returned (.int .u32 ((ror x 13 : Nat) : Int)) ∧ w = w' := by
  go_enter Tryz.func128, Tryz.ntmps128
  go_wp2_with fail
  refine (rot13 x _ hx).mono ?_
  rintro e w' ⟨rfl, rfl⟩
  go_wp2
  go_ret
  exact ⟨rfl, rfl⟩
set_option maxRecDepth 100000 in
set_option maxHeartbeats 400000 in
theorem dturn13 (x : Nat) (w : World) (hx : x < 4294967296) :
    Calls Tryz.prog 120 #[.int .u32 x, .int .u64 13] w fun e w' => e = .returned (.int .u32 ((ror x 13 : Nat) : Int)) ∧ w = w' := by
  go_enter Tryz.func120, Tryz.ntmps120
  go_wp2
  go_ret
  exact ⟨by rw [oru13 x hx]; rfl, rfl⟩

theorem orp17 (x : Nat) (hx : x < 4294967296) : bits .or .u32 ((x : Int) * 32768 % 4294967296) ((x : Int) / 131072) = ((ror x 17 : Nat) : Int) := by
  have h1 : x * 32768 % 4294967296 < 4294967296 := Nat.mod_lt _ (by decide)
  have h2 : x / 131072 < 4294967296 := Nat.lt_of_le_of_lt (Nat.div_le_self _ _) hx
  rw [show (x : Int) * 32768 % 4294967296 = ((x * 32768 % 4294967296 : Nat) : Int) by omega, show (x : Int) / 131072 = ((x / 131072 : Nat) : Int) by omega, u32_or_nat _ _ h1 h2, Nat.or_comm]
  rfl
theorem oru17 (x : Nat) (hx : x < 4294967296) : bits .or .u32 ((x : Int) / 131072) ((x : Int) * 32768 % 4294967296) = ((ror x 17 : Nat) : Int) := by
  have h1 : x * 32768 % 4294967296 < 4294967296 := Nat.mod_lt _ (by decide)
  have h2 : x / 131072 < 4294967296 := Nat.lt_of_le_of_lt (Nat.div_le_self _ _) hx
  rw [show (x : Int) * 32768 % 4294967296 = ((x * 32768 % 4294967296 : Nat) : Int) by omega, show (x : Int) / 131072 = ((x / 131072 : Nat) : Int) by omega, u32_or_nat _ _ h2 h1]
  rfl
set_option maxRecDepth 100000 in
set_option maxHeartbeats 400000 in
theorem rot17 (x : Nat) (w : World) (hx : x < 4294967296) :
    Calls Tryz.prog 135 #[.int .u32 x, .int .i64 (-17)] w fun e w' => e = .returned (.int .u32 ((ror x 17 : Nat) : Int)) ∧ w = w' := by
  have hb : bits .and .u64 (IntKind.u64.wrap (-17)) 31 = 15 := by decide
  go_enter Tryz.func135, Tryz.ntmps135
  go_wp2
  go_ret
  exact ⟨by rw [orp17 x hx]; rfl, rfl⟩
set_option maxRecDepth 100000 in
set_option maxHeartbeats 400000 in
theorem turn17 (x : Nat) (w : World) (hx : x < 4294967296) :
    Calls Tryz.prog 128 #[.int .u32 x, .int .i64 17] w fun e w' => e = .returned (.int .u32 ((ror x 17 : Nat) : Int)) ∧ w = w' := by
  go_enter Tryz.func128, Tryz.ntmps128
  go_wp2_with fail
  refine (rot17 x _ hx).mono ?_
  rintro e w' ⟨rfl, rfl⟩
  go_wp2
  go_ret
  exact ⟨rfl, rfl⟩
set_option maxRecDepth 100000 in
set_option maxHeartbeats 400000 in
theorem dturn17 (x : Nat) (w : World) (hx : x < 4294967296) :
    Calls Tryz.prog 120 #[.int .u32 x, .int .u64 17] w fun e w' => e = .returned (.int .u32 ((ror x 17 : Nat) : Int)) ∧ w = w' := by
  go_enter Tryz.func120, Tryz.ntmps120
  go_wp2
  go_ret
  exact ⟨by rw [oru17 x hx]; rfl, rfl⟩

theorem orp18 (x : Nat) (hx : x < 4294967296) : bits .or .u32 ((x : Int) * 16384 % 4294967296) ((x : Int) / 262144) = ((ror x 18 : Nat) : Int) := by
  have h1 : x * 16384 % 4294967296 < 4294967296 := Nat.mod_lt _ (by decide)
  have h2 : x / 262144 < 4294967296 := Nat.lt_of_le_of_lt (Nat.div_le_self _ _) hx
  rw [show (x : Int) * 16384 % 4294967296 = ((x * 16384 % 4294967296 : Nat) : Int) by omega, show (x : Int) / 262144 = ((x / 262144 : Nat) : Int) by omega, u32_or_nat _ _ h1 h2, Nat.or_comm]
  rfl
theorem oru18 (x : Nat) (hx : x < 4294967296) : bits .or .u32 ((x : Int) / 262144) ((x : Int) * 16384 % 4294967296) = ((ror x 18 : Nat) : Int) := by
  have h1 : x * 16384 % 4294967296 < 4294967296 := Nat.mod_lt _ (by decide)
  have h2 : x / 262144 < 4294967296 := Nat.lt_of_le_of_lt (Nat.div_le_self _ _) hx
  rw [show (x : Int) * 16384 % 4294967296 = ((x * 16384 % 4294967296 : Nat) : Int) by omega, show (x : Int) / 262144 = ((x / 262144 : Nat) : Int) by omega, u32_or_nat _ _ h2 h1]
  rfl
set_option maxRecDepth 100000 in
set_option maxHeartbeats 400000 in
theorem rot18 (x : Nat) (w : World) (hx : x < 4294967296) :
    Calls Tryz.prog 135 #[.int .u32 x, .int .i64 (-18)] w fun e w' => e = .returned (.int .u32 ((ror x 18 : Nat) : Int)) ∧ w = w' := by
  have hb : bits .and .u64 (IntKind.u64.wrap (-18)) 31 = 14 := by decide
  go_enter Tryz.func135, Tryz.ntmps135
  go_wp2
  go_ret
  exact ⟨by rw [orp18 x hx]; rfl, rfl⟩
set_option maxRecDepth 100000 in
set_option maxHeartbeats 400000 in
theorem turn18 (x : Nat) (w : World) (hx : x < 4294967296) :
    Calls Tryz.prog 128 #[.int .u32 x, .int .i64 18] w fun e w' => e = .returned (.int .u32 ((ror x 18 : Nat) : Int)) ∧ w = w' := by
  go_enter Tryz.func128, Tryz.ntmps128
  go_wp2_with fail
  refine (rot18 x _ hx).mono ?_
  rintro e w' ⟨rfl, rfl⟩
  go_wp2
  go_ret
  exact ⟨rfl, rfl⟩
set_option maxRecDepth 100000 in
set_option maxHeartbeats 400000 in
theorem dturn18 (x : Nat) (w : World) (hx : x < 4294967296) :
    Calls Tryz.prog 120 #[.int .u32 x, .int .u64 18] w fun e w' => e = .returned (.int .u32 ((ror x 18 : Nat) : Int)) ∧ w = w' := by
  go_enter Tryz.func120, Tryz.ntmps120
  go_wp2
  go_ret
  exact ⟨by rw [oru18 x hx]; rfl, rfl⟩

theorem orp19 (x : Nat) (hx : x < 4294967296) : bits .or .u32 ((x : Int) * 8192 % 4294967296) ((x : Int) / 524288) = ((ror x 19 : Nat) : Int) := by
  have h1 : x * 8192 % 4294967296 < 4294967296 := Nat.mod_lt _ (by decide)
  have h2 : x / 524288 < 4294967296 := Nat.lt_of_le_of_lt (Nat.div_le_self _ _) hx
  rw [show (x : Int) * 8192 % 4294967296 = ((x * 8192 % 4294967296 : Nat) : Int) by omega, show (x : Int) / 524288 = ((x / 524288 : Nat) : Int) by omega, u32_or_nat _ _ h1 h2, Nat.or_comm]
  rfl
theorem oru19 (x : Nat) (hx : x < 4294967296) : bits .or .u32 ((x : Int) / 524288) ((x : Int) * 8192 % 4294967296) = ((ror x 19 : Nat) : Int) := by
  have h1 : x * 8192 % 4294967296 < 4294967296 := Nat.mod_lt _ (by decide)
  have h2 : x / 524288 < 4294967296 := Nat.lt_of_le_of_lt (Nat.div_le_self _ _) hx
  rw [show (x : Int) * 8192 % 4294967296 = ((x * 8192 % 4294967296 : Nat) : Int) by omega, show (x : Int) / 524288 = ((x / 524288 : Nat) : Int) by omega, u32_or_nat _ _ h2 h1]
  rfl
set_option maxRecDepth 100000 in
set_option maxHeartbeats 400000 in
theorem rot19 (x : Nat) (w : World) (hx : x < 4294967296) :
    Calls Tryz.prog 135 #[.int .u32 x, .int .i64 (-19)] w fun e w' => e = .returned (.int .u32 ((ror x 19 : Nat) : Int)) ∧ w = w' := by
  have hb : bits .and .u64 (IntKind.u64.wrap (-19)) 31 = 13 := by decide
  go_enter Tryz.func135, Tryz.ntmps135
  go_wp2
  go_ret
  exact ⟨by rw [orp19 x hx]; rfl, rfl⟩
set_option maxRecDepth 100000 in
set_option maxHeartbeats 400000 in
theorem turn19 (x : Nat) (w : World) (hx : x < 4294967296) :
    Calls Tryz.prog 128 #[.int .u32 x, .int .i64 19] w fun e w' => e = .returned (.int .u32 ((ror x 19 : Nat) : Int)) ∧ w = w' := by
  go_enter Tryz.func128, Tryz.ntmps128
  go_wp2_with fail
  refine (rot19 x _ hx).mono ?_
  rintro e w' ⟨rfl, rfl⟩
  go_wp2
  go_ret
  exact ⟨rfl, rfl⟩
set_option maxRecDepth 100000 in
set_option maxHeartbeats 400000 in
theorem dturn19 (x : Nat) (w : World) (hx : x < 4294967296) :
    Calls Tryz.prog 120 #[.int .u32 x, .int .u64 19] w fun e w' => e = .returned (.int .u32 ((ror x 19 : Nat) : Int)) ∧ w = w' := by
  go_enter Tryz.func120, Tryz.ntmps120
  go_wp2
  go_ret
  exact ⟨by rw [oru19 x hx]; rfl, rfl⟩

theorem orp22 (x : Nat) (hx : x < 4294967296) : bits .or .u32 ((x : Int) * 1024 % 4294967296) ((x : Int) / 4194304) = ((ror x 22 : Nat) : Int) := by
  have h1 : x * 1024 % 4294967296 < 4294967296 := Nat.mod_lt _ (by decide)
  have h2 : x / 4194304 < 4294967296 := Nat.lt_of_le_of_lt (Nat.div_le_self _ _) hx
  rw [show (x : Int) * 1024 % 4294967296 = ((x * 1024 % 4294967296 : Nat) : Int) by omega, show (x : Int) / 4194304 = ((x / 4194304 : Nat) : Int) by omega, u32_or_nat _ _ h1 h2, Nat.or_comm]
  rfl
theorem oru22 (x : Nat) (hx : x < 4294967296) : bits .or .u32 ((x : Int) / 4194304) ((x : Int) * 1024 % 4294967296) = ((ror x 22 : Nat) : Int) := by
  have h1 : x * 1024 % 4294967296 < 4294967296 := Nat.mod_lt _ (by decide)
  have h2 : x / 4194304 < 4294967296 := Nat.lt_of_le_of_lt (Nat.div_le_self _ _) hx
  rw [show (x : Int) * 1024 % 4294967296 = ((x * 1024 % 4294967296 : Nat) : Int) by omega, show (x : Int) / 4194304 = ((x / 4194304 : Nat) : Int) by omega, u32_or_nat _ _ h2 h1]
  rfl
set_option maxRecDepth 100000 in
set_option maxHeartbeats 400000 in
theorem rot22 (x : Nat) (w : World) (hx : x < 4294967296) :
    Calls Tryz.prog 135 #[.int .u32 x, .int .i64 (-22)] w fun e w' => e = .returned (.int .u32 ((ror x 22 : Nat) : Int)) ∧ w = w' := by
  have hb : bits .and .u64 (IntKind.u64.wrap (-22)) 31 = 10 := by decide
  go_enter Tryz.func135, Tryz.ntmps135
  go_wp2
  go_ret
  exact ⟨by rw [orp22 x hx]; rfl, rfl⟩
set_option maxRecDepth 100000 in
set_option maxHeartbeats 400000 in
theorem turn22 (x : Nat) (w : World) (hx : x < 4294967296) :
    Calls Tryz.prog 128 #[.int .u32 x, .int .i64 22] w fun e w' => e = .returned (.int .u32 ((ror x 22 : Nat) : Int)) ∧ w = w' := by
  go_enter Tryz.func128, Tryz.ntmps128
  go_wp2_with fail
  refine (rot22 x _ hx).mono ?_
  rintro e w' ⟨rfl, rfl⟩
  go_wp2
  go_ret
  exact ⟨rfl, rfl⟩
set_option maxRecDepth 100000 in
set_option maxHeartbeats 400000 in
theorem dturn22 (x : Nat) (w : World) (hx : x < 4294967296) :
    Calls Tryz.prog 120 #[.int .u32 x, .int .u64 22] w fun e w' => e = .returned (.int .u32 ((ror x 22 : Nat) : Int)) ∧ w = w' := by
  go_enter Tryz.func120, Tryz.ntmps120
  go_wp2
  go_ret
  exact ⟨by rw [oru22 x hx]; rfl, rfl⟩

theorem orp25 (x : Nat) (hx : x < 4294967296) : bits .or .u32 ((x : Int) * 128 % 4294967296) ((x : Int) / 33554432) = ((ror x 25 : Nat) : Int) := by
  have h1 : x * 128 % 4294967296 < 4294967296 := Nat.mod_lt _ (by decide)
  have h2 : x / 33554432 < 4294967296 := Nat.lt_of_le_of_lt (Nat.div_le_self _ _) hx
  rw [show (x : Int) * 128 % 4294967296 = ((x * 128 % 4294967296 : Nat) : Int) by omega, show (x : Int) / 33554432 = ((x / 33554432 : Nat) : Int) by omega, u32_or_nat _ _ h1 h2, Nat.or_comm]
  rfl
theorem oru25 (x : Nat) (hx : x < 4294967296) : bits .or .u32 ((x : Int) / 33554432) ((x : Int) * 128 % 4294967296) = ((ror x 25 : Nat) : Int) := by
  have h1 : x * 128 % 4294967296 < 4294967296 := Nat.mod_lt _ (by decide)
  have h2 : x / 33554432 < 4294967296 := Nat.lt_of_le_of_lt (Nat.div_le_self _ _) hx
  rw [show (x : Int) * 128 % 4294967296 = ((x * 128 % 4294967296 : Nat) : Int) by omega, show (x : Int) / 33554432 = ((x / 33554432 : Nat) : Int) by omega, u32_or_nat _ _ h2 h1]
  rfl
set_option maxRecDepth 100000 in
set_option maxHeartbeats 400000 in
theorem rot25 (x : Nat) (w : World) (hx : x < 4294967296) :
    Calls Tryz.prog 135 #[.int .u32 x, .int .i64 (-25)] w fun e w' => e = .returned (.int .u32 ((ror x 25 : Nat) : Int)) ∧ w = w' := by
  have hb : bits .and .u64 (IntKind.u64.wrap (-25)) 31 = 7 := by decide
  go_enter Tryz.func135, Tryz.ntmps135
  go_wp2
  go_ret
  exact ⟨by rw [orp25 x hx]; rfl, rfl⟩
set_option maxRecDepth 100000 in
set_option maxHeartbeats 400000 in
theorem turn25 (x : Nat) (w : World) (hx : x < 4294967296) :
    Calls Tryz.prog 128 #[.int .u32 x, .int .i64 25] w fun e w' => e = .returned (.int .u32 ((ror x 25 : Nat) : Int)) ∧ w = w' := by
  go_enter Tryz.func128, Tryz.ntmps128
  go_wp2_with fail
  refine (rot25 x _ hx).mono ?_
  rintro e w' ⟨rfl, rfl⟩
  go_wp2
  go_ret
  exact ⟨rfl, rfl⟩
set_option maxRecDepth 100000 in
set_option maxHeartbeats 400000 in
theorem dturn25 (x : Nat) (w : World) (hx : x < 4294967296) :
    Calls Tryz.prog 120 #[.int .u32 x, .int .u64 25] w fun e w' => e = .returned (.int .u32 ((ror x 25 : Nat) : Int)) ∧ w = w' := by
  go_enter Tryz.func120, Tryz.ntmps120
  go_wp2
  go_ret
  exact ⟨by rw [oru25 x hx]; rfl, rfl⟩

theorem xor3 (a b c : Nat) (ha : a < 4294967296) (hb : b < 4294967296) (hc : c < 4294967296) :
    bits .xor .u32 (bits .xor .u32 (a : Int) (b : Int)) (c : Int) = ((a ^^^ b ^^^ c : Nat) : Int) := by
  rw [u32_xor_nat _ _ ha hb, u32_xor_nat _ _ (xor32 ha hb) hc]

set_option maxRecDepth 100000 in
set_option maxHeartbeats 400000 in
theorem mixE_any (x : Nat) (w : World) (hx : x < 4294967296) :
    Calls Tryz.prog 116 #[.int .u32 x] w fun e w' => e = .returned (.int .u32 ((sb1 x : Nat) : Int)) ∧ w = w' := by
  go_enter Tryz.func116, Tryz.ntmps116
  go_wp2_with fail
  refine (turn6 x _ hx).mono ?_
  rintro e w' ⟨rfl, rfl⟩
  go_wp2_with fail
  refine (turn11 x _ hx).mono ?_
  rintro e w' ⟨rfl, rfl⟩
  go_wp2_with fail
  refine (turn25 x _ hx).mono ?_
  rintro e w' ⟨rfl, rfl⟩
  go_wp2
  go_ret
  exact ⟨by rw [xor3 _ _ _ (ror32 _ hx) (ror32 _ hx) (ror32 _ hx)]; rfl, rfl⟩

set_option maxRecDepth 100000 in
set_option maxHeartbeats 400000 in
theorem three_mixE (x : Nat) (w : World) (hx : x < 4294967296) :
    Calls Tryz.prog 121 #[.int .u32 x, .int .u64 6, .int .u64 11, .int .u64 25] w fun e w' => e = .returned (.int .u32 ((sb1 x : Nat) : Int)) ∧ w = w' := by
  go_enter Tryz.func121, Tryz.ntmps121
  go_wp2_with fail
  refine (dturn6 x _ hx).mono ?_
  rintro e w' ⟨rfl, rfl⟩
  go_wp2_with fail
  refine (dturn11 x _ hx).mono ?_
  rintro e w' ⟨rfl, rfl⟩
  go_wp2_with fail
  refine (dturn25 x _ hx).mono ?_
  rintro e w' ⟨rfl, rfl⟩
  go_wp2
  go_ret
  exact ⟨by rw [xor3 _ _ _ (ror32 _ hx) (ror32 _ hx) (ror32 _ hx)]; rfl, rfl⟩

set_option maxRecDepth 100000 in
set_option maxHeartbeats 400000 in
theorem mixA_any (x : Nat) (w : World) (hx : x < 4294967296) :
    Calls Tryz.prog 117 #[.int .u32 x] w fun e w' => e = .returned (.int .u32 ((sb0 x : Nat) : Int)) ∧ w = w' := by
  go_enter Tryz.func117, Tryz.ntmps117
  go_wp2_with fail
  refine (turn2 x _ hx).mono ?_
  rintro e w' ⟨rfl, rfl⟩
  go_wp2_with fail
  refine (turn13 x _ hx).mono ?_
  rintro e w' ⟨rfl, rfl⟩
  go_wp2_with fail
  refine (turn22 x _ hx).mono ?_
  rintro e w' ⟨rfl, rfl⟩
  go_wp2
  go_ret
  exact ⟨by rw [xor3 _ _ _ (ror32 _ hx) (ror32 _ hx) (ror32 _ hx)]; rfl, rfl⟩

set_option maxRecDepth 100000 in
set_option maxHeartbeats 400000 in
theorem three_mixA (x : Nat) (w : World) (hx : x < 4294967296) :
    Calls Tryz.prog 121 #[.int .u32 x, .int .u64 2, .int .u64 13, .int .u64 22] w fun e w' => e = .returned (.int .u32 ((sb0 x : Nat) : Int)) ∧ w = w' := by
  go_enter Tryz.func121, Tryz.ntmps121
  go_wp2_with fail
  refine (dturn2 x _ hx).mono ?_
  rintro e w' ⟨rfl, rfl⟩
  go_wp2_with fail
  refine (dturn13 x _ hx).mono ?_
  rintro e w' ⟨rfl, rfl⟩
  go_wp2_with fail
  refine (dturn22 x _ hx).mono ?_
  rintro e w' ⟨rfl, rfl⟩
  go_wp2
  go_ret
  exact ⟨by rw [xor3 _ _ _ (ror32 _ hx) (ror32 _ hx) (ror32 _ hx)]; rfl, rfl⟩
end Go.Proofs.YtdhaanaenklleaaGreatDoor.S
namespace Go.Proofs.YtdhaanaenklleaaGreatDoor.S
set_option linter.unusedVariables false
open Go.ChangeShapes Go.WideShapes Go.ChangeAt Go.RowKit

def dig (x k i : Nat) : Value := Value.int .u8 (if i < k then ((x / 256 ^ (7 - i) % 256 : Nat) : Int) else 0)
def numCells (x k : Nat) : Array Value := #[dig x k 0, dig x k 1, dig x k 2, dig x k 3, dig x k 4, dig x k 5, dig x k 6, dig x k 7]
def numI (x : Nat) : List Int := [7, 6, 5, 4, 3, 2, 1, 0].map fun j => ((x / 256 ^ j % 256 : Nat) : Int)
def numB (x : Nat) : ByteArray := strOfNums (numI x)

theorem numCells_get (x k : Nat) (hk : k < 8) : (numCells x k)[k]? = some (.int .u8 0) := by
  rcases (by omega : k = 0 ∨ k = 1 ∨ k = 2 ∨ k = 3 ∨ k = 4 ∨ k = 5 ∨ k = 6 ∨ k = 7) with h | h | h | h | h | h | h | h <;> subst h <;> simp [numCells, dig]

theorem numCells_set (x k : Nat) (hk : k < 8) : (numCells x k).setIfInBounds k (.int .u8 ((x / 256 ^ (7 - k) % 256 : Nat) : Int)) = numCells x (k + 1) := by
  rcases (by omega : k = 0 ∨ k = 1 ∨ k = 2 ∨ k = 3 ∨ k = 4 ∨ k = 5 ∨ k = 6 ∨ k = 7) with h | h | h | h | h | h | h | h <;> subst h <;> simp [numCells, dig]

theorem numCells_all (x i : Nat) (hi : i < 8) : (numCells x 8)[i]? = some (.int .u8 ((numI x).getD i 0)) := by
  rcases (by omega : i = 0 ∨ i = 1 ∨ i = 2 ∨ i = 3 ∨ i = 4 ∨ i = 5 ∨ i = 6 ∨ i = 7) with h | h | h | h | h | h | h | h <;> subst h <;> simp [numCells, dig, numI]

theorem wrap_u64_nat (n : Int) : IntKind.u64.wrap n = ((n % 18446744073709551616).toNat : Int) := by
  have : IntKind.u64.wrap n = n % 18446744073709551616 := by simp [IntKind.wrap, IntKind.bits, IntKind.signed]
  rw [this]; omega

theorem shr_pow (n : Int) (k : Nat) (hk : k < 8) : IntKind.u64.wrap n / 2 ^ (8 * (7 - k)) % 256 = (((n % 18446744073709551616).toNat / 256 ^ (7 - k) % 256 : Nat) : Int) := by
  rw [wrap_u64_nat]
  have : (2 : Int) ^ (8 * (7 - k)) = ((256 ^ (7 - k) : Nat) : Int) := by
    rw [Nat.pow_mul 2 8 (7-k) |> fun h => (by rw [show (256:Nat) = 2^8 from rfl, ← h] : (256:Nat)^(7-k) = 2^(8*(7-k)))]
    simp
  rw [this]
  omega

set_option maxRecDepth 100000 in
set_option maxHeartbeats 400000 in
theorem num_any (n : Int) (w : World) :
    Calls Tryz.prog 97 #[.int .i64 n] w fun e w' => e = .returned (.string (numB (n % 18446744073709551616).toNat)) ∧ Below w.heap.size w w' := by
  obtain ⟨x, hx⟩ : ∃ x, x = (n % 18446744073709551616).toNat := ⟨_, rfl⟩
  rw [← hx]
  have Hx := Lib.hid hx
  clear hx
  have hconv : ∀ (wr : World), wr.heap[w.heap.size]? = some (.cells (numCells x 8) 171 (0, 0)) → (convert 56 9 (.slice (some ⟨w.heap.size, 0, none⟩) 8 8)).run Tryz.prog wr = .ok (.string (numB x)) wr := fun wr hb =>
    run_convert_bytes_arg wr 56 5 Tryz.underlying56 Tryz.underlying5 _ 0 8 8 (numI x) (by simp [numI]) (fun i hi => by rw [block_cell hb, Nat.zero_add, numCells_all x i hi]) 9 Tryz.underlying9
  go_enter Tryz.func97, Tryz.ntmps97
  go_wp2
  go_loopw [4, 5] (fun _ i wr => ∃ k : Nat, k ≤ 8 ∧ i = .int .i64 k ∧ wr.heap[w.heap.size]? = some (.cells (numCells x k) 171 (0, 0)) ∧ Below w.heap.size w wr) (fun _ i _ => 8 - (intOf i).toNat)
  case atStart => exact ⟨0, by omega, rfl, heap_alloc_new w _, (Below.refl _ _).alloc (Nat.le_refl _) _⟩
  case round =>
    obtain ⟨k, hk, rfl, hb, hB⟩ := hrel
    by_cases hlt : k < 8
    · have hcell : wr.cell? ⟨w.heap.size, k, none⟩ = some (.int .u8 0) := by rw [block_cell hb, numCells_get x k hlt]
      have hfz : wr.frozen? ⟨w.heap.size, k, none⟩ = false := block_free hb k
      have HB := Lib.hid hb
      clear hb
      go_wp2
      refine ⟨⟨k + 1, by omega, by go_num, ?_, hB.setCell (Nat.le_refl _) _⟩, by simp [intOf]; omega⟩
      rw [block_set HB.out, shr_pow n k hlt, ← Hx.out, numCells_set x k hlt]
    · obtain rfl : k = 8 := by omega
      have hcv := hconv wr hb
      clear hconv hb
      go_wp2
      go_ret
      exact ⟨rfl, hB⟩
end Go.Proofs.YtdhaanaenklleaaGreatDoor.S
namespace Go.Proofs.YtdhaanaenklleaaGreatDoor.S
open Go.ChangeShapes Go.WideShapes Go.ChangeAt Go.RowKit
end Go.Proofs.YtdhaanaenklleaaGreatDoor.S
namespace Go.Proofs.YtdhaanaenklleaaGreatDoor.S
open Go.ChangeShapes Go.WideShapes Go.ChangeAt Go.RowKit

/-- How many bytes texts have in all. -/
def total : List ByteArray → Nat | [] => 0 | s :: r => s.size + total r
theorem total_append (a b : List ByteArray) : total (a ++ b) = total a + total b := by
  induction a with
  | nil => simp [total]
  | cons s r ih => simp [total, ih]; omega

theorem total_take (ss : List ByteArray) (k : Nat) (h : k < ss.length) : total (ss.take (k + 1)) = total (ss.take k) + (ss.getD k ByteArray.empty).size := by
  rw [List.take_succ_eq_append_getElem h, total_append]
  simp [total, List.getD, h]

theorem total_mono (ss : List ByteArray) (k m : Nat) (h : k ≤ m) (hm : m ≤ ss.length) : total (ss.take k) ≤ total (ss.take m) := by
  induction m with
  | zero => have : k = 0 := by omega
            subst this; exact Nat.le_refl _
  | succ m ih =>
    by_cases e : k = m + 1
    · subst e; exact Nat.le_refl _
    · have := ih (by omega) (by omega)
      rw [total_take ss m (by omega)]
      omega

end Go.Proofs.YtdhaanaenklleaaGreatDoor.S
namespace Go.Proofs
def Tryz.lays166_ren : Go.Shelf.Ren := ⟨fun | 166 => 96 | 240 => 118 | 276 => 129 | n => n, fun | 0 => 0 | 3 => 3 | 4 => 4 | 5 => 5 | 9 => 9 | 20 => 20 | 37 => 56 | 70 => 143 | 72 => 145 | 75 => 148 | 80 => 151 | 127 => 172 | 164 => 181 | n => n, fun n => n⟩
theorem Tryz.lays166 : Go.Proofs.Lays.n166 Tryz.prog Tryz.lays166_ren := {
  mixed := by kernel_rfl
  f166 := Tryz.func96.trans (congrArg some (by kernel_rfl))
  f240 := Tryz.func118.trans (congrArg some (by kernel_rfl))
  f276 := Tryz.func129.trans (congrArg some (by kernel_rfl))
  t0 := Tryz.underlying0
  a0 := Tryz.isAgg0
  z0 := Tryz.sizeOf0
  v0 := Tryz.zeroValue0
  t3 := Tryz.underlying3
  a3 := Tryz.isAgg3
  z3 := Tryz.sizeOf3
  v3 := Tryz.zeroValue3
  t4 := Tryz.underlying4
  a4 := Tryz.isAgg4
  z4 := Tryz.sizeOf4
  v4 := Tryz.zeroValue4
  t9 := Tryz.underlying9
  a9 := Tryz.isAgg9
  z9 := Tryz.sizeOf9
  v9 := Tryz.zeroValue9
  t20 := Tryz.underlying20
  a20 := Tryz.isAgg20
  z20 := Tryz.sizeOf20
  v20 := Tryz.zeroValue20
  t37 := Tryz.underlying56
  a37 := Tryz.isAgg56
  z37 := Tryz.sizeOf56
  v37 := Tryz.zeroValue56
  t70 := Tryz.underlying143
  a70 := Tryz.isAgg143
  z70 := Tryz.sizeOf143
  v70 := Tryz.zeroValue143
  t72 := Tryz.underlying145
  a72 := Tryz.isAgg145
  z72 := Tryz.sizeOf145
  v72 := Tryz.zeroValue145
  t75 := Tryz.underlying148
  a75 := Tryz.isAgg148
  z75 := Tryz.sizeOf148
  v75 := Tryz.zeroValue148
  t164 := Tryz.underlying181
  a164 := Tryz.isAgg181
  z164 := Tryz.sizeOf181
  v164 := Tryz.zeroValue181
}
theorem Tryz.Builder_Extra_166 : Builder.Extra Tryz.prog Tryz.lays166_ren := {
  sizeBuilder := by kernel_rfl
  liesBuilder := by kernel_rfl
  t5 := Tryz.underlying5
  a5 := Tryz.isAgg5
  z5 := Tryz.sizeOf5
  v5 := Tryz.zeroValue5
  infoByte := by kernel_rfl
  cellsByte := by kernel_rfl
  sizeByte := by kernel_rfl
  neB5 := by decide }
open Go.RowKit in
theorem Tryz.Builder_WriteString (B b : Nat) (bs : List Value) (s : ByteArray) (w : World) (h : Lib.IsBuilder 145 5 B b bs w) (hlen : bs.length + s.size ≤ 140737488355328) (hBw : B ≤ w.heap.size) :
    Calls Tryz.prog 96 #[.pointer (some ⟨b, 0, none⟩), .string s] w fun e w' => e = .returned (.tuple #[.int .i64 s.size, .nilIface]) ∧ (Lib.BuilderAt 145 5 B b (.pointer (some ⟨b, 0, none⟩)) (bs ++ Lib.strCells s) w' ∧ Below B w w') := Any.Builder_WriteString Tryz.lays166 Tryz.Builder_Extra_166 B b bs s w h hlen hBw
end Go.Proofs
namespace Go.Proofs.YtdhaanaenklleaaGreatDoor.S
open Go.ChangeShapes Go.WideShapes Go.ChangeAt Go.RowKit

theorem ownsRow_below {w w' : World} {base : Nat} {e : TypeId} {size : Nat} {v : Value} {n : Nat} {xs : List Value} (h : w.ownsRow base e size v n xs) (hB : Below w.heap.size w w') : w'.ownsRow base e size v n xs :=
  h.kept (row := none) ⟨hB.os, hB.tape, hB.output, hB.size, fun k hk _ => hB.block k hk⟩ (by cases v.ownBlock <;> simp)

theorem builder_below {w w' : World} {T e : TypeId} {B b : Nat} {p : Value} {bs : List Value} (h : Lib.BuilderAt T e B b p bs w) (hB : Below w.heap.size w w') : Lib.BuilderAt T e B b p bs w' := by
  obtain ⟨h1, v, h2, h3, h4⟩ := h
  exact ⟨h1, v, by rw [hB.block _ (lt_of_block h2)]; exact h2, ownsRow_below h3 hB, h4⟩

/-- The bytes of parts, each behind its number. -/
def partsL : List ByteArray → List UInt8 | [] => [] | s :: r => (numB s.size).data.toList ++ s.data.toList ++ partsL r
theorem partsL_append (a b : List ByteArray) : partsL (a ++ b) = partsL a ++ partsL b := by
  induction a with
  | nil => rfl
  | cons s r ih => simp [partsL, ih]
def joinL (ss : List ByteArray) : List UInt8 := (numB ss.length).data.toList ++ partsL ss
def joinB (ss : List ByteArray) : ByteArray := ⟨(joinL ss).toArray⟩

theorem numB_len (x : Nat) : (numB x).data.toList.length = 8 := by simp [numB, strOfNums, numI]
theorem numB_size (x : Nat) : (numB x).size = 8 := by rw [numB, strOfNums_size]; rfl
theorem partsL_len (ss : List ByteArray) : (partsL ss).length = 8 * ss.length + total ss := by
  induction ss with
  | nil => rfl
  | cons s r ih =>
    rw [partsL, List.length_append, List.length_append, numB_len, ih]
    simp [total]; omega
theorem partsL_take (ss : List ByteArray) (k : Nat) (h : k < ss.length) : partsL (ss.take (k + 1)) = partsL (ss.take k) ++ ((numB (ss.getD k ByteArray.empty).size).data.toList ++ (ss.getD k ByteArray.empty).data.toList) := by
  rw [List.take_succ_eq_append_getElem h, partsL_append]
  simp [partsL, List.getD, h]
theorem len_mod (n : Nat) (h : n < 18446744073709551616) : ((n : Int) % 18446744073709551616).toNat = n := by omega
theorem cells_append (a b : List UInt8) : Lib.byteCells a ++ Lib.byteCells b = Lib.byteCells (a ++ b) := by simp [Lib.byteCells]
theorem strCells_eq (s : ByteArray) : Lib.strCells s = Lib.byteCells s.data.toList := rfl

set_option maxRecDepth 100000 in
set_option maxHeartbeats 400000 in
theorem join_any (v : Value) (ss : List ByteArray) (w : World) (hv : Strs w v ss) (hz : total ss ≤ 1099511627776) (hl : ss.length ≤ 1099511627776) :
    Calls Tryz.prog 67 #[v] w fun e w' => e = .returned (.string (joinB ss)) ∧ Below w.heap.size w w' := by
  rcases hv with ⟨⟨pz, cz, rfl⟩, rfl⟩ | ⟨b, off, cap, rfl, hcap, hmax, hb, hcell⟩
  · go_enter Tryz.func67, Tryz.ntmps67
    go_wp2_with fail
    refine wp_loop_rounds 1 ?_
    rw [rounds_succ]
    go_wp2_with fail
    refine (Tryz.Builder_Grow_fresh w.heap.size w.heap.size 8 _ (Nat.le_refl _) (heap_alloc_new w _) (by simp) (by omega)).mono ?_
    rintro e w1 ⟨rfl, hbd, hB1⟩
    go_wp2_with fail
    refine (num_any _ _).mono ?_
    rintro e w2 ⟨rfl, hB2⟩
    have hbd2 := builder_below hbd hB2
    have hB02 : Below w.heap.size w w2 := ((((Below.refl _ w).alloc (Nat.le_refl _) _).trans hB1).trans (hB2.mono (by have := hB1.size; simp at this; omega)))
    clear hB1 hB2 hbd
    go_wp2_with fail
    refine (Tryz.Builder_WriteString w.heap.size w.heap.size [] _ _ (.inr hbd2) (by simp [numB_size]) hB02.size).mono ?_
    rintro e w3 ⟨rfl, hbd3, hB3⟩
    rw [List.nil_append, strCells_eq] at hbd3
    have hB03 := hB02.trans hB3
    clear hbd2 hB3 hB02
    go_wp2_with fail
    refine wp_loop_rounds 1 ?_
    rw [rounds_succ]
    go_wp2_with fail
    refine (Tryz.Builder_String_any w.heap.size w.heap.size _ _ (.inr hbd3) hB03.size).mono ?_
    rintro e w4 ⟨rfl, hB4⟩
    have hB04 := hB03.trans hB4
    clear hbd3 hB4 hB03
    go_wp2_with fail
    go_ret
    exact ⟨by simp [joinB, joinL, partsL], hB04⟩
  · obtain ⟨len, hlen⟩ : ∃ len, len = ss.length := ⟨_, rfl⟩
    rw [← hlen] at hcap hl hcell ⊢
    have Hlen := Lib.hid hlen
    have Hz := Lib.hid hz
    unfold maxLen at hmax
    clear hlen hz
    go_enter Tryz.func67, Tryz.ntmps67
    go_wp2_with fail
    go_loop [3, 5, 11] (fun n _ i => ∃ k : Nat, k ≤ len ∧ i = .int .i64 k ∧ n = .int .i64 ((8 + 8 * k + total (ss.take k) : Nat) : Int)) (fun _ _ i => len - (intOf i).toNat)
    case atStart => exact ⟨0, by omega, rfl, rfl⟩
    case round =>
      obtain ⟨k, hk, rfl, rfl⟩ := hrel
      have htm := total_mono ss k ss.length (by have := Hlen.out; omega) (Nat.le_refl _)
      rw [List.take_length] at htm
      have hqz : total (ss.take k) ≤ 1099511627776 := by have := Hz.out; omega
      clear htm
      by_cases hlt : k < len
      · have hc := hcell k hlt
        have htm := total_mono ss (k+1) ss.length (by have := Hlen.out; omega) (Nat.le_refl _)
        rw [List.take_length] at htm
        have hts := total_take ss k (by have := Hlen.out; omega)
        have Hts := Lib.hid hts
        obtain ⟨s, hs⟩ : ∃ s, s = ss.getD k ByteArray.empty := ⟨_, rfl⟩
        rw [← hs] at hc hts
        have hsz : s.size ≤ 1099511627776 := by have := Hz.out; omega
        have Hs := Lib.hid hs
        clear hs hts hcell htm
        generalize hqq : total (ss.take k) = q at *
        clear hqq
        go_wp2_with fail
        exact ⟨⟨k + 1, by omega, by go_num, by rw [Hts.out, ← Hs.out]; go_num⟩, by simp [intOf]; omega⟩
      · obtain rfl : k = len := by omega
        generalize hqq : total (ss.take k) = q at *
        clear hqq
        go_wp2_with fail
        rw [show (8 + 8 * (k : Int) + (q : Int)) = ((8 + 8 * k + q : Nat) : Int) by omega]
        refine (Tryz.Builder_Grow_fresh w.heap.size w.heap.size (8 + 8 * k + q) _ (Nat.le_refl _) (heap_alloc_new w _) (by simp) (by omega)).mono ?_
        rintro e w1 ⟨rfl, hbd, hB1⟩
        go_wp2_with fail
        refine (num_any _ _).mono ?_
        rintro e w2 ⟨rfl, hB2⟩
        rw [len_mod _ (by omega)]
        have hbd2 := builder_below hbd hB2
        have hB02 : Below w.heap.size w w2 := ((((Below.refl _ w).alloc (Nat.le_refl _) _).trans hB1).trans (hB2.mono (by have := hB1.size; simp at this; omega)))
        clear hB1 hB2 hbd
        go_wp2_with fail
        refine (Tryz.Builder_WriteString w.heap.size w.heap.size [] (numB k) _ (.inr hbd2) (by simp [numB_size]) hB02.size).mono ?_
        rintro e w3 ⟨rfl, hbd3, hB3⟩
        rw [List.nil_append, strCells_eq] at hbd3
        have hB03 := hB02.trans hB3
        clear hbd2 hB3 hB02
        go_wp2_with fail
        go_loopw [8, 29] (fun _ i wr => ∃ j : Nat, j ≤ k ∧ i = .int .i64 j ∧ Lib.BuilderAt 145 5 w.heap.size w.heap.size (.pointer (some ⟨w.heap.size, 0, none⟩)) (Lib.byteCells ((numB k).data.toList ++ partsL (ss.take j))) wr ∧ Below w.heap.size w wr) (fun _ i _ => k - (intOf i).toNat)
        case atStart => exact ⟨0, by omega, rfl, by simpa [partsL] using hbd3, hB03⟩
        case round =>
          obtain ⟨j, hj, rfl, hbd, hB⟩ := hrel
          clear hbd3 hB03
          by_cases hjk : j < k
          · have hc : wr.cell? ⟨b, off + j, none⟩ = some (.string (ss.getD j ByteArray.empty)) := by rw [hB.cell (p := ⟨b, off + j, none⟩) hb]; exact hcell j hjk
            have hpt := partsL_take ss j (by have := Hlen.out; omega)
            have htl : total (ss.take (j + 1)) ≤ 1099511627776 := by
              have := total_mono ss (j + 1) ss.length (by have := Hlen.out; omega) (Nat.le_refl _)
              rw [List.take_length] at this; have := Hz.out; omega
            rw [total_take ss j (by have := Hlen.out; omega)] at htl
            have hpl := partsL_len (ss.take j)
            rw [List.length_take] at hpl
            obtain ⟨s, hs⟩ : ∃ s, s = ss.getD j ByteArray.empty := ⟨_, rfl⟩
            rw [← hs] at hc hpt htl
            have Hpt := Lib.hid hpt
            have Hpl := Lib.hid hpl
            have hsz : s.size ≤ 1099511627776 := by omega
            have hlb : (Lib.byteCells ((numB k).data.toList ++ partsL (ss.take j))).length ≤ 17592186044416 := by
              rw [Lib.byteCells_length, List.length_append, numB_len, hpl]; omega
            clear hs hpt hpl hcell htl
            go_wp2_with fail
            refine (num_any _ _).mono ?_
            rintro e w4 ⟨rfl, hB4⟩
            rw [len_mod _ (by omega)]
            have hbd4 := builder_below hbd hB4
            have hB04 := hB.trans (hB4.mono hB.size)
            clear hbd hB4 hB hc
            go_wp2_with fail
            refine (Tryz.Builder_WriteString w.heap.size w.heap.size _ (numB s.size) _ (.inr hbd4) (by rw [numB_size]; omega) hB04.size).mono ?_
            rintro e w5 ⟨rfl, hbd5, hB5⟩
            rw [strCells_eq, cells_append] at hbd5
            have hB05 := hB04.trans hB5
            clear hbd4 hB5 hB04
            go_wp2_with fail
            refine (Tryz.Builder_WriteString w.heap.size w.heap.size _ s _ (.inr hbd5) (by rw [← cells_append, List.length_append, Lib.byteCells_length (numB _).data.toList, numB_len]; omega) hB05.size).mono ?_
            rintro e w6 ⟨rfl, hbd6, hB6⟩
            rw [strCells_eq, cells_append] at hbd6
            have hB06 := hB05.trans hB6
            clear hbd5 hB6 hB05
            go_wp2_with fail
            refine ⟨⟨j + 1, by omega, by go_num, ?_, hB06⟩, by simp [intOf]; omega⟩
            rw [Hpt.out]
            simpa [List.append_assoc] using hbd6
          · obtain rfl : j = k := by omega
            clear hcell
            have htk : ss.take j = ss := by rw [Hlen.out, List.take_length]
            rw [htk] at hbd
            clear htk
            go_wp2_with fail
            refine (Tryz.Builder_String_any w.heap.size w.heap.size _ _ (.inr hbd) hB.size).mono ?_
            rintro e w4 ⟨rfl, hB4⟩
            have hB04 := hB.trans hB4
            clear hbd hB4 hB
            go_wp2_with fail
            go_ret
            have ej : joinB ss = ⟨((numB j).data.toList ++ partsL ss).toArray⟩ := by rw [joinB, joinL, ← Hlen.out]
            exact ⟨by rw [ej]; rfl, hB04⟩
end Go.Proofs.YtdhaanaenklleaaGreatDoor.S
namespace Go.Proofs.YtdhaanaenklleaaGreatDoor.S
open Go.ChangeShapes Go.WideShapes Go.ChangeAt Go.RowKit

def mkB (l : List UInt8) : ByteArray := ⟨l.toArray⟩
theorem mkB_data (s : ByteArray) : mkB s.data.toList = s := by cases s; rfl
theorem mkB_size (a : List UInt8) : (mkB a).size = a.length := by simp [mkB, ByteArray.size]

end Go.Proofs.YtdhaanaenklleaaGreatDoor.S
namespace Go.Proofs.YtdhaanaenklleaaGreatDoor.S
open Go.RowKit

/-- Numbers as a row of cells. -/
def ints (k : IntKind) (l : List Nat) : Array Value := (l.map fun (n : Nat) => Value.int k (n : Int)).toArray
theorem ints_size (k : IntKind) (l : List Nat) : (ints k l).size = l.length := by simp [ints]
theorem ints_one (k : IntKind) (l : List Nat) : (ints k l).all (·.oneCell') = true := by
  rw [Array.all_eq_true_iff_forall_mem]
  intro v hv
  simp only [ints, List.mem_toArray, List.mem_map] at hv
  obtain ⟨n, _, rfl⟩ := hv
  rfl
theorem ints_get (k : IntKind) (l : List Nat) (j : Nat) (h : j < l.length) : (ints k l)[j]? = some (.int k ((l.getD j 0 : Nat) : Int)) := by
  simp [ints, List.getElem?_map, List.getElem?_eq_getElem h, List.getD_eq_getElem?_getD]

/-- A block holds n numbers, those of the list first, then noughts. -/
def Arr (w : World) (b : Nat) (t : TypeId) (n : Nat) (k : IntKind) (l : List Nat) : Prop :=
  ∃ cur, w.heap[b]? = some (.cells cur t (0, 0)) ∧ cur.size = n ∧ ∀ j, j < n → cur[j]? = some (.int k ((l.getD j 0 : Nat) : Int))
variable {w : World} {b t n : Nat} {k : IntKind} {l : List Nat}
theorem Arr.cell (h : Arr w b t n k l) (j : Nat) (hj : j < n) : w.cell? ⟨b, j, none⟩ = some (.int k ((l.getD j 0 : Nat) : Int)) := by
  obtain ⟨cur, h1, h2, h3⟩ := h
  exact (block_cell h1 j).trans (h3 j hj)
theorem Arr.free (h : Arr w b t n k l) (j : Nat) : w.frozen? ⟨b, j, none⟩ = false := by
  obtain ⟨cur, h1, h2, h3⟩ := h
  exact block_free h1 j
theorem Arr.set (h : Arr w b t n k l) {i : Nat} (hi : i < n) (v : Nat) (l' : List Nat) (hl : ∀ j, j < n → l'.getD j 0 = if i = j then v else l.getD j 0) :
    Arr (w.setCell ⟨b, i, none⟩ (.int k (v : Int))) b t n k l' := by
  obtain ⟨cur, h1, h2, h3⟩ := h
  refine ⟨_, block_set h1, by simpa using h2, fun j hj => ?_⟩
  rw [Array.getElem?_setIfInBounds, hl j hj]
  by_cases e : i = j
  · subst e; rw [if_pos rfl, if_pos (by omega), if_pos rfl]
  · rw [if_neg e, if_neg e, h3 j hj]
theorem Arr.snoc (h : Arr w b t n k l) (hi : l.length < n) (v : Nat) : Arr (w.setCell ⟨b, l.length, none⟩ (.int k (v : Int))) b t n k (l ++ [v]) :=
  h.set hi v _ fun j hj => by
    simp only [List.getD_eq_getElem?_getD]
    by_cases e : l.length = j
    · subst e; simp
    · rw [if_neg e]
      by_cases e2 : j < l.length
      · rw [List.getElem?_append_left e2]
      · rw [List.getElem?_eq_none (by simp; omega), List.getElem?_eq_none (by omega)]
theorem Arr.below {w' : World} (h : Arr w b t n k l) (hB : Below w.heap.size w w') : Arr w' b t n k l := by
  obtain ⟨cur, h1, h2, h3⟩ := h
  exact ⟨cur, by rw [hB.block b (lt_of_block h1)]; exact h1, h2, h3⟩
theorem Arr.heap {w' : World} (h : Arr w b t n k l) (hB : w'.heap[b]? = w.heap[b]?) : Arr w' b t n k l := by
  obtain ⟨cur, h1, h2, h3⟩ := h
  exact ⟨cur, by rw [hB]; exact h1, h2, h3⟩
theorem Arr.lt (h : Arr w b t n k l) : b < w.heap.size := by
  obtain ⟨cur, h1, _, _⟩ := h
  exact lt_of_block h1
theorem Arr.other (h : Arr w b t n k l) (a : Addr) (v : Value) (hne : b ≠ a.block) : Arr (w.setCell a v) b t n k l := h.heap (heap_setCell_other w a b v hne)
theorem Arr.whole (h : Arr w b t n k l) (hl : l.length = n) : w.heap[b]? = some (.cells (ints k l) t (0, 0)) := by
  obtain ⟨cur, h1, h2, h3⟩ := h
  rw [h1]
  have : cur = ints k l := by
    apply Array.ext (by rw [ints_size]; omega)
    intro i hi1 hi2
    have e1 := h3 i (by omega)
    have e2 := ints_get k l i (by omega)
    rw [Array.getElem?_eq_getElem hi1] at e1
    rw [Array.getElem?_eq_getElem hi2] at e2
    exact Option.some.inj (e1.trans e2.symm)
  rw [this]
theorem arr_ints (h : w.heap[b]? = some (.cells (ints k l) t (0, 0))) (hl : l.length = n) : Arr w b t n k l :=
  ⟨_, h, by rw [ints_size, hl], fun j hj => ints_get k l j (by omega)⟩
theorem arr_zero {cur : Array Value} (h : w.heap[b]? = some (.cells cur t (0, 0))) (hc : cur = Array.replicate n (.int k 0)) : Arr w b t n k [] :=
  ⟨_, h, by rw [hc]; simp, fun j hj => by rw [hc]; simp [hj]⟩

def K64 : List Nat := [1116352408, 1899447441, 3049323471, 3921009573, 961987163, 1508970993, 2453635748, 2870763221, 3624381080, 310598401, 607225278, 1426881987, 1925078388, 2162078206, 2614888103, 3248222580, 3835390401, 4022224774, 264347078, 604807628, 770255983, 1249150122, 1555081692, 1996064986, 2554220882, 2821834349, 2952996808, 3210313671, 3336571891, 3584528711, 113926993, 338241895, 666307205, 773529912, 1294757372, 1396182291, 1695183700, 1986661051, 2177026350, 2456956037, 2730485921, 2820302411, 3259730800, 3345764771, 3516065817, 3600352804, 4094571909, 275423344, 430227734, 506948616, 659060556, 883997877, 958139571, 1322822218, 1537002063, 1747873779, 1955562222, 2024104815, 2227730452, 2361852424, 2428436474, 2756734187, 3204031479, 3329325298]
theorem k64_len : K64.length = 64 := rfl
end Go.Proofs.YtdhaanaenklleaaGreatDoor.S
namespace Go.Proofs.YtdhaanaenklleaaGreatDoor.S
open Go.RowKit

/-- A region that draws its order, walked once in the order of the text, its operations leaving the world in a class. -/
theorem wp_region_class {P : Program} {id : Nat} {Q : Exit → Act → World → Prop} {a : Act} {w : World} {l : List Oper} (C : World → Prop) (hm : P.follows .mixedOrders = true) (hB : Region.lexB .any l.toArray = true) (hC : C w.drew)
    (h : wpQuiet P l.toArray C (fun a' => ∀ w', C w' → Q .normal a' w') l a) : (Code.region id l.toArray true).wp P Q a w :=
  wp_region_quiet (C := C) hm hB hC (by simpa using h)

section
variable {P : Program} {ops : Array Oper} {md : Region.Mode} {C : World → Prop}
def wpAnyH (P : Program) (md : Region.Mode) (ops : Array Oper) (C : World → Prop) (n : Nat) (L : Array Bool → Act → Prop) : Nat → Array Bool → Act → Prop
  | 0, listed, a => L listed a
  | f + 1, listed, a => Region.ready md ops listed ≠ [] ∧ ∀ i ∈ Region.ready md ops listed, i < n ∧ qOp P ops C i (wpAnyH P md ops C n L f (listed.setIfInBounds i true)) a

theorem wpAny_of_headH {n g : Nat} {L : Array Bool → Act → Prop} {Q' : Exit → Act → World → Prop} (hL : ∀ listed a w, C w → L listed a → wpAny P md ops Q' g listed a w) :
    ∀ (f : Nat) (listed : Array Bool) (a : Act) (w : World), C w → wpAnyH P md ops C n L f listed a → wpAny P md ops Q' (f + g) listed a w
  | 0, listed, a, w, hw, h => by rw [Nat.zero_add]; exact hL _ _ _ hw h
  | f + 1, listed, a, w, hw, h => by
    rw [show f + 1 + g = (f + g) + 1 by omega]
    exact ⟨fun h0 => absurd h0 h.1, fun i hi => wpOp_of_qOp hw (fun a' w' hw' h' => wpAny_of_headH hL f _ a' w' hw' h') (h.2 i hi).2⟩

theorem wpAnyH_first {n i : Nat} {oi : Oper} {v : Value} {L : Array Bool → Act → Prop} (hi : ops[i]? = some oi) (hsel : ∀ (j : Nat) (o : Oper) cs b, ops[j]? = some o → o.op ≠ .select cs b)
    (hs : Region.sinkB md ops n = true) (hc : Region.chainB md ops n = true) (hn : n < ops.size) (hin : i < n)
    (hdone : ∀ listed a, L listed a → ∀ j ∈ Region.ready md ops listed, n ≤ j) :
    ∀ (f : Nat) (listed : Array Bool) (a : Act), HeadInv md ops n listed →
      (∀ j oj, ops[j]? = some oj → j ≠ i → listed.getD j true = false → (∀ e ∈ oj.after, Region.binds md e = true → e.on ≠ i) → oi.apart ops oj = true) →
      i ∈ Region.ready md ops listed → YieldsIn P ops C oi v a →
      wpAnyH P md ops C n L f (listed.setIfInBounds i true) (a.put oi.dst v) → wpAnyH P md ops C n L (f + 1) listed a := by
  intro f
  induction f with
  | zero =>
    intro listed a inv _ hr hy H
    have hun := (mem_ready.1 hr).1
    refine ⟨fun h => (by rw [h] at hr; cases hr), fun j hj => ?_⟩
    have hjn : j < n := by
      rcases Nat.lt_or_ge j n with h | h
      · exact h
      · exact absurd hj (tail_waits hs hc hn inv _ i rfl hin hun j h)
    refine ⟨hjn, ?_⟩
    by_cases hji : j = i
    · subst hji; exact hy.qOp hi H
    · have := hdone _ _ H j (ready_mono hj hji)
      omega
  | succ f ih =>
    intro listed a inv hfree hr hy H
    have hun := (mem_ready.1 hr).1
    refine ⟨fun h => (by rw [h] at hr; cases hr), fun j hj => ?_⟩
    have hjn : j < n := by
      rcases Nat.lt_or_ge j n with h | h
      · exact h
      · exact absurd hj (tail_waits hs hc hn inv _ i rfl hin hun j h)
    refine ⟨hjn, ?_⟩
    by_cases hji : j = i
    · subst hji; exact hy.qOp hi H
    · have h1 := (H.2 j (ready_mono hj hji)).2
      obtain ⟨hjun, oj, hoj, hall⟩ := mem_ready.1 hj
      have hnot : ∀ e ∈ oj.after, Region.binds md e = true → e.on ≠ i := fun e he hb heq => by
        have h1 := hall e he hb
        rw [heq, getD_both hun] at h1
        cases h1
      have h2 := qOp_put hoj (hfree j oj hoj hji hjun hnot) (fun cs b => hsel i oi cs b hi) (fun cs b => hsel j oj cs b hoj) hy h1
      have hfree' : ∀ k ok, ops[k]? = some ok → k ≠ i → (listed.setIfInBounds j true).getD k true = false →
          (∀ e ∈ ok.after, Region.binds md e = true → e.on ≠ i) → oi.apart ops ok = true := fun k ok hk hki hun hno => by
        refine hfree k ok hk hki ?_ hno
        by_cases hjk : j = k
        · subst hjk; exact hjun
        · rw [getD_set_ne true hjk] at hun; exact hun
      refine qOp_mono (fun a' h3 => ih (listed.setIfInBounds j true) a' (inv.set hj hjn) hfree' (ready_mono hr (Ne.symm hji)) h3.1 ?_) h2
      rw [Array.setIfInBounds_comm _ _ hji]
      exact h3.2

theorem wpAnyH_lex {n g : Nat} {Lq : Act → Prop} (hsel : Region.noSelect ops = true) (hs : Region.sinkB md ops n = true) (hc : Region.chainB md ops n = true) (hn : n < ops.size) :
    ∀ (l : List Oper) (k : Nat) (listed : Array Bool) (a : Act), (∀ j, j < l.length → l[j]? = ops[k + j]?) → k + l.length = n → HeadInv md ops n listed →
    Region.lexHead md ops g l.length k listed = true → wpQuiet P ops C Lq l a →
    wpAnyH P md ops C n (fun listed' a' => Region.seqB md ops g n listed' = true ∧ Lq a') l.length listed a
  | [], k, listed, a, _, hk, _, hB, h => by
    have : k = n := by simpa using hk
    subst this
    exact ⟨by simpa [Region.lexHead] using hB, h⟩
  | o :: l, k, listed, a, hl, hk, inv, hB, h => by
    have h0 : ops[k]? = some o := by simpa using (hl 0 (by simp)).symm
    simp only [List.length_cons, Region.lexHead, Bool.and_eq_true] at hB
    obtain ⟨⟨hr, hf⟩, hB'⟩ := hB
    have hkn : k < n := by simp only [List.length_cons] at hk; omega
    have hr' : k ∈ Region.ready md ops listed := by simpa using hr
    have hst : qOp P ops C k (wpQuiet P ops C Lq l) a := by unfold qOp; simp only [h0]; exact h
    obtain ⟨v, hy, hK⟩ := yieldsIn_of_qOp h0 hst
    exact wpAnyH_first h0 (Region.noSelect_spec hsel) hs hc hn hkn (fun listed' a' hL => seqB_ready hL.1) l.length listed a inv (Region.free_spec h0 hf) hr' hy
      (wpAnyH_lex hsel hs hc hn l (k + 1) _ _ (fun j hj => by have := hl (j + 1) (by simp; omega); simpa [Nat.add_assoc, Nat.add_comm 1 j] using this) (by simp only [List.length_cons] at hk; omega) (inv.set hr' hkn) hB' hK)

/-- The first n operations leave the world in a class; the others come in the order of the text. -/
theorem wp_region_class_tail {id : Nat} {Q : Exit → Act → World → Prop} {a : Act} {w : World} {l : List Oper} (C : World → Prop) (n : Nat) (hm : P.follows .mixedOrders = true) (hB : Region.lexTailB .any l.toArray n = true) (hC : C w.drew)
    (h : wpQuiet P l.toArray C (fun a' => ∀ w', C w' → wpList P l.toArray Q (l.drop n) a' w') (l.take n) a) : (Code.region id l.toArray true).wp P Q a w := by
  simp only [Region.lexTailB, Bool.and_eq_true, decide_eq_true_eq] at hB
  obtain ⟨⟨⟨⟨hsel, hn⟩, hs⟩, hc⟩, hlex⟩ := hB
  have hn' : n < l.length := by simpa using hn
  have htl : (l.take n).length = n := by simp; omega
  have hdl : (l.drop n).length = l.toArray.size - n := by simp
  have inv0 : HeadInv .any l.toArray n (Array.replicate l.toArray.size false) :=
    ⟨by simp, fun j oj _ hl => (by rw [getD_replicate_false] at hl; cases hl), fun t _ ht => getD_in (by simpa using ht) (getD_replicate_false _ _)⟩
  have H := wpAnyH_lex (md := .any) (g := l.toArray.size - n) hsel hs hc hn (l.take n) 0 _ a (fun j hj => by
    have hj' : j < n := by rw [htl] at hj; exact hj
    simp [hj']) (by simpa using htl) inv0 (by rw [htl]; exact hlex) h
  refine wp_region_any hm ?_
  have := wpAny_of_headH (Q' := Q) (g := l.toArray.size - n) (fun listed a' w' hw' hL => by
    have := wpAny_of_seq (md := .any) (Q' := Q) (l.drop n) n listed a' w' (fun j => by simp [List.getElem?_drop]) (by rw [hdl]; exact hL.1) (hL.2 w' hw')
    rwa [hdl] at this) _ _ _ w.drew hC H
  rw [htl, show n + (l.toArray.size - n) = l.toArray.size by omega] at this
  exact this
end
end Go.Proofs.YtdhaanaenklleaaGreatDoor.S
namespace Go.Proofs.YtdhaanaenklleaaGreatDoor.S
set_option linter.unusedVariables false
open Go.ChangeShapes Go.WideShapes Go.ChangeAt Go.RowKit

set_option maxRecDepth 100000 in
set_option maxHeartbeats 1000000 in
theorem numbers_any (w : World) : Calls Tryz.prog 100 #[] w fun e w' => e = .returned (.agg (ints .u32 K64)) ∧ Below w.heap.size w w' := by
  go_enter Tryz.func100, Tryz.ntmps100
  go_wp2_with (first
    | (refine wpList_buildTo rfl 153 _ rfl (some 1) rfl (ints .u32 K64) (by as_aux_lemma => kernel_rfl) ?_)
    | (refine wpList_store_rowTo rfl 153 _ _ rfl rfl w.heap.size (ints .u32 K64) rfl rfl 153 _ (heap_alloc_new w _) (by as_aux_lemma => kernel_rfl) (by as_aux_lemma => kernel_rfl) (ints_one _ _) ?_; rw [World.setRow_alloc_new]))
  trace_state
  refine bodyPost_ret (v := .agg (ints .u32 K64)) (results_cell_row (fr := (0, 0)) rfl _ _ w.heap.size 153 _ _ rfl (heap_alloc_new w _) Tryz.underlying153 rfl (by as_aux_lemma => kernel_rfl)) rfl ⟨rfl, (Below.refl _ _).alloc (Nat.le_refl _) _⟩
end Go.Proofs.YtdhaanaenklleaaGreatDoor.S
namespace Go.Proofs.YtdhaanaenklleaaGreatDoor.S
open Go.RowKit

def pw (B : List Nat) (i : Nat) : Nat → Nat
  | 0 => 0
  | k + 1 => pw B i k * 256 + B.getD (4 * i + k) 0
def pre (B : List Nat) (i : Nat) : List Nat := (List.range i).map fun j => pw B j 4
def wnext (l : List Nat) : Nat := (l.getD (l.length - 16) 0 + ss0 (l.getD (l.length - 15) 0) + l.getD (l.length - 7) 0 + ss1 (l.getD (l.length - 2) 0)) % 4294967296
def wext (l : List Nat) : Nat → List Nat
  | 0 => l
  | n + 1 => wext l n ++ [wnext (wext l n)]
def wordsL (B : List Nat) : List Nat := wext (pre B 16) 48
def Small (m : Nat) (l : List Nat) : Prop := ∀ j, l.getD j 0 < m
theorem pre_len (B : List Nat) (i : Nat) : (pre B i).length = i := by simp [pre]
theorem pre_succ (B : List Nat) (i : Nat) : pre B (i + 1) = pre B i ++ [pw B i 4] := by simp [pre, List.range_succ]
theorem wext_len (l : List Nat) (n : Nat) : (wext l n).length = l.length + n := by
  induction n with
  | zero => rfl
  | succ n ih => simp only [wext, List.length_append, ih, List.length_cons, List.length_nil]; omega
theorem wordsL_len (B : List Nat) : (wordsL B).length = 64 := by rw [wordsL, wext_len, pre_len]
theorem pw_lt {B : List Nat} (h : Small 256 B) (i k : Nat) : pw B i k < 256 ^ k := by
  induction k with
  | zero => simp [pw]
  | succ k ih =>
    have := h (4 * i + k)
    rw [pw, Nat.pow_succ]
    omega
theorem pw_lt4 {B : List Nat} (h : Small 256 B) (i : Nat) {k : Nat} (hk : k < 4) : pw B i k < 16777216 :=
  Nat.lt_of_lt_of_le (pw_lt h i k) (Nat.pow_le_pow_right (n := 256) (by omega) (show k ≤ 3 by omega))
theorem getD_snoc (l : List Nat) (v j : Nat) : (l ++ [v]).getD j 0 = if l.length = j then v else l.getD j 0 := by
  simp only [List.getD_eq_getElem?_getD]
  by_cases e : l.length = j
  · subst e; simp
  · rw [if_neg e]
    by_cases e2 : j < l.length
    · rw [List.getElem?_append_left e2]
    · rw [List.getElem?_eq_none (by simp; omega), List.getElem?_eq_none (by omega)]
theorem Small.snoc {m v : Nat} {l : List Nat} (h : Small m l) (hv : v < m) : Small m (l ++ [v]) := fun j => by
  rw [getD_snoc]; split
  · exact hv
  · exact h j
theorem pre_small {B : List Nat} (h : Small 256 B) (i : Nat) : Small 4294967296 (pre B i) := by
  induction i with
  | zero => intro j; simp [pre]
  | succ i ih => rw [pre_succ]; exact ih.snoc (pw_lt h i 4)
theorem wext_small {l : List Nat} (h : Small 4294967296 l) (n : Nat) : Small 4294967296 (wext l n) := by
  induction n with
  | zero => exact h
  | succ n ih => exact ih.snoc (Nat.mod_lt _ (by decide))
theorem wordsL_small {B : List Nat} (h : Small 256 B) : Small 4294967296 (wordsL B) := wext_small (pre_small h 16) 48
theorem Arr.more {w : World} {b t n : Nat} {k : IntKind} {l : List Nat} (h : Arr w b t n k l) : Arr w b t n k (l ++ [0]) := by
  obtain ⟨cur, h1, h2, h3⟩ := h
  refine ⟨cur, h1, h2, fun j hj => ?_⟩
  rw [h3 j hj, getD_snoc]
  split
  · rename_i e
    subst e
    simp
  · rfl
theorem Arr.last {w : World} {b t n : Nat} {k : IntKind} {l : List Nat} {u : Nat} (h : Arr w b t n k (l ++ [u])) (hi : l.length < n) (v : Nat) : Arr (w.setCell ⟨b, l.length, none⟩ (.int k (v : Int))) b t n k (l ++ [v]) :=
  h.set hi v _ fun j hj => by
    rw [getD_snoc, getD_snoc]
    split <;> rfl
theorem or_small (a b : Nat) (ha : a < 16777216) (hb : b < 256) : bits .or .u32 ((a : Int) * 256) (b : Int) = ((a * 256 + b : Nat) : Int) := by
  rw [show (a : Int) * 256 = ((a * 256 : Nat) : Int) by omega, u32_or_nat _ _ (by omega) (by omega)]
  have : a * 256 = a <<< 8 := by rw [Nat.shiftLeft_eq]
  rw [this, Nat.shiftLeft_add_eq_or_of_lt (by simpa using hb)]
end Go.Proofs.YtdhaanaenklleaaGreatDoor.S
namespace Go.Proofs.YtdhaanaenklleaaGreatDoor.S
set_option linter.unusedVariables false
open Go.ChangeShapes Go.WideShapes Go.ChangeAt Go.RowKit

theorem slice42 (w : World) (pb i : Nat) (h : i < 16) :
    (Instr.sliceAt 138 (.pointer (some ⟨pb, 0, none⟩)) (some (.int .i64 (4 * (i : Int)))) (some (.int .i64 (4 * (i : Int) + 4))) none).run Tryz.prog w
      = .ok (.slice (some ⟨pb, 4 * i, none⟩) 4 (64 - 4 * i)) w := by
  have he : Tryz.prog.arrayLen 138 = 64 := by kernel_rfl
  have hE : Tryz.prog.elem 138 = 5 := by kernel_rfl
  have hz : (sizeOf 5).run Tryz.prog w = .ok 1 w := by simp [go_sem]
  rw [run_sliceAt_array_lh w 138 ⟨pb, 0, none⟩ (by rw [he, hE]; exact Tryz.underlying138) .i64 .i64 _ _ (by omega) (by omega) (by rw [he]; omega), hE, hz, he]
  have e1 : (4 * (i : Int)).toNat = 4 * i := by omega
  have e2 : (4 * (i : Int) + 4).toNat = 4 * i + 4 := by omega
  simp only [Result.andThen_ok, slicedAt, e1, e2]
  rw [if_neg (by omega), show 4 * i + 4 - 4 * i = 4 by omega]
  simp only [Addr.add, Nat.mul_one]
  split <;> simp_all

theorem ss0_bits (x : Nat) (hx : x < 4294967296) : bits .xor .u32 (bits .xor .u32 ((ror x 7 : Nat) : Int) ((ror x 18 : Nat) : Int)) ((x : Int) / 8) = ((ss0 x : Nat) : Int) := by
  have h3 : x / 8 < 4294967296 := Nat.lt_of_le_of_lt (Nat.div_le_self _ _) hx
  rw [show (x : Int) / 8 = ((x / 8 : Nat) : Int) by omega, xor3 _ _ _ (ror32 _ hx) (ror32 _ hx) h3]
  rfl
theorem ss1_bits (x : Nat) (hx : x < 4294967296) : bits .xor .u32 (bits .xor .u32 ((ror x 17 : Nat) : Int) ((ror x 19 : Nat) : Int)) ((x : Int) / 1024) = ((ss1 x : Nat) : Int) := by
  have h3 : x / 1024 < 4294967296 := Nat.lt_of_le_of_lt (Nat.div_le_self _ _) hx
  rw [show (x : Int) / 1024 = ((x / 1024 : Nat) : Int) by omega, xor3 _ _ _ (ror32 _ hx) (ror32 _ hx) h3]
  rfl

set_option maxRecDepth 100000 in
set_option maxHeartbeats 1000000 in
theorem words_any (B : List Nat) (pb t : Nat) (w : World) (hA : Arr w pb t 64 .u8 B) (hs : Small 256 B) :
    Calls Tryz.prog 115 #[.pointer (some ⟨pb, 0, none⟩)] w fun e w' => e = .returned (.agg (ints .u32 (wordsL B))) ∧ Below w.heap.size w w' := by
  have hpb := hA.lt
  have HA := Lib.hid hA
  clear hA
  go_enter Tryz.func115, Tryz.ntmps115
  go_wp2_with fail
  go_loopg [10] 16 (fun g iv wr => ∃ i : Nat, i + g = 16 ∧ iv = .int .i64 i ∧ Arr wr w.heap.size 153 64 .u32 [] ∧ Arr wr (w.heap.size + 1) 153 64 .u32 (pre B i) ∧ Below w.heap.size w wr)
  case atStart =>
    refine ⟨0, by omega, rfl, ?_, ?_, ?_⟩
    · exact arr_zero (heap_alloc2_old _ _ _) rfl
    · exact arr_zero (heap_alloc2_new _ _ _) rfl
    · exact ((Below.refl _ _).alloc (Nat.le_refl _) _).alloc (by simp) _
  case round =>
    obtain ⟨i, hig, rfl, hR, hW, hB⟩ := hrel
    by_cases hlt : i < 16
    · have hltI : (i : Int) < 16 := by omega
      have hsl := slice42 wr pb i hlt
      have HR := Lib.hid hR
      have HW := Lib.hid hW
      clear hR hW
      obtain ⟨gko, rfl⟩ : ∃ g, g = gk := ⟨gk, rfl⟩
      obtain ⟨wo, rfl⟩ : ∃ wo, wo = wr := ⟨wr, rfl⟩
      go_wp2_with fail
      go_loopg [22] 4 (fun g jv wr => ∃ k : Nat, k + g = 4 ∧ jv = .int .i64 k ∧ Arr wr w.heap.size 153 64 .u32 [] ∧ Arr wr (w.heap.size + 1) 153 64 .u32 (pre B i ++ [pw B i k]) ∧ Below w.heap.size w wr)
      case atStart => exact ⟨0, by omega, rfl, HR.out, HW.out.more, hB⟩
      case round =>
        obtain ⟨k, hkg, rfl, hR, hW, hB2⟩ := hrel
        by_cases hk : k < 4
        · have hkI : (k : Int) < 4 := by omega
          have hcb := (HA.out.below hB2).cell (4 * i + k) (by omega)
          have hcw := hW.cell i (by omega)
          have hfw := hW.free i
          rw [getD_snoc, if_pos (pre_len B i)] at hcw
          have hp := pw_lt4 hs i hk
          have hc := hs (4 * i + k)
          have hn := fun v => hW.last (by rw [pre_len]; omega) v
          simp only [pre_len] at hn
          have Hn := Lib.hid hn
          clear hn
          have HR2 := Lib.hid (fun v => hR.other ⟨w.heap.size + 1, i, none⟩ v (by simp))
          obtain ⟨q, hq⟩ : ∃ q, pw B i (k + 1) = q := ⟨_, rfl⟩
          have hq2 : pw B i k * 256 + B.getD (4 * i + k) 0 = q := hq
          have Hq := Lib.hid hq
          have Hq2 := Lib.hid hq2
          clear hq hq2
          generalize pw B i k = p at *
          generalize B.getD (4 * i + k) 0 = c at *
          have hwc := wrap32_small c (by omega)
          have Hor := Lib.hid (or_small p c hp hc)
          clear hW
          go_wp2_with fail
          go_roundg (gk - 1)
          case measure => omega
          case rel => exact ⟨k + 1, by omega, by go_num, HR2.out _, by rw [Hor.out, Hq2.out, Hq.out]; exact Hn.out _, hB2.setCell (by simp) _⟩
        · obtain rfl : k = 4 := by omega
          have hnl : ¬ ((4 : Nat) : Int) < 4 := by omega
          go_wp2_with fail
          go_roundg (gko - 1)
          case measure => omega
          case rel => exact ⟨i + 1, by omega, by go_num, hR, by rw [pre_succ]; exact hW, hB2⟩
    · have hnl : ¬ (i : Int) < 16 := by omega
      obtain rfl : i = 16 := by omega
      go_wp2_with fail
      have HR := Lib.hid hR
      have HW := Lib.hid hW
      clear hR hW
      go_loopg [7] 48 (fun g iv wr => ∃ m : Nat, m + g = 48 ∧ iv = .int .i64 ((m : Int) + 16) ∧ Arr wr w.heap.size 153 64 .u32 [] ∧ Arr wr (w.heap.size + 1) 153 64 .u32 (wext (pre B 16) m) ∧ Below w.heap.size w wr)
      case atStart => exact ⟨0, by omega, rfl, HR.out, HW.out, hB⟩
      case round =>
        obtain ⟨m, hmg, rfl, hR, hW, hB2⟩ := hrel
        by_cases hm : m < 48
        · have hmI : (m : Int) + 16 < 64 := by omega
          obtain ⟨l, hl⟩ : ∃ l, l = wext (pre B 16) m := ⟨_, rfl⟩
          have hll : l.length = m + 16 := by rw [hl, wext_len, pre_len]; omega
          have hsm : Small 4294967296 l := hl ▸ wext_small (pre_small hs 16) m
          rw [← hl] at hW
          have hnx : wnext l = (l.getD m 0 + ss0 (l.getD (m + 1) 0) + l.getD (m + 9) 0 + ss1 (l.getD (m + 14) 0)) % 4294967296 := by
            unfold wnext
            rw [hll, show m + 16 - 16 = m by omega, show m + 16 - 15 = m + 1 by omega, show m + 16 - 7 = m + 9 by omega, show m + 16 - 2 = m + 14 by omega]
          have Hnx := Lib.hid (show wext (pre B 16) (m + 1) = l ++ [(l.getD m 0 + ss0 (l.getD (m + 1) 0) + l.getD (m + 9) 0 + ss1 (l.getD (m + 14) 0)) % 4294967296] by rw [← hnx, hl]; rfl)
          have c0 := hW.cell m (by omega)
          have c1 := hW.cell (m + 1) (by omega)
          have c9 := hW.cell (m + 9) (by omega)
          have c14 := hW.cell (m + 14) (by omega)
          have cN := hW.cell (m + 16) (by omega)
          have fz := hW.free (m + 16)
          have hwl := hW.lt
          have hn := fun v => hW.snoc (by omega) v
          rw [hll] at hn
          have b0 := hsm m
          have b1 := hsm (m + 1)
          have b9 := hsm (m + 9)
          have b14 := hsm (m + 14)
          clear hnx hl
          generalize l.getD m 0 = x0 at *
          generalize l.getD (m + 1) 0 = x1 at *
          generalize l.getD (m + 9) 0 = x9 at *
          generalize l.getD (m + 14) 0 = x14 at *
          have HC0 := Lib.hid (fun w1 (hB1 : Below wr.heap.size wr w1) => (hB1.cell (p := ⟨w.heap.size + 1, m, none⟩) hwl).trans c0)
          have HC1 := Lib.hid (fun w1 (hB1 : Below wr.heap.size wr w1) => (hB1.cell (p := ⟨w.heap.size + 1, m + 1, none⟩) hwl).trans c1)
          have HC9 := Lib.hid (fun w1 (hB1 : Below wr.heap.size wr w1) => (hB1.cell (p := ⟨w.heap.size + 1, m + 9, none⟩) hwl).trans c9)
          have HC14 := Lib.hid (fun w1 (hB1 : Below wr.heap.size wr w1) => (hB1.cell (p := ⟨w.heap.size + 1, m + 14, none⟩) hwl).trans c14)
          have HT7 := Lib.hid (fun w1 (hB1 : Below wr.heap.size wr w1) => (turn7 x1 w1 b1).mono (fun e w2 h => (⟨h.1, h.2 ▸ hB1⟩ : e = .returned (.int .u32 ((ror x1 7 : Nat) : Int)) ∧ Below wr.heap.size wr w2)))
          have HT18 := Lib.hid (fun w1 (hB1 : Below wr.heap.size wr w1) => (turn18 x1 w1 b1).mono (fun e w2 h => (⟨h.1, h.2 ▸ hB1⟩ : e = .returned (.int .u32 ((ror x1 18 : Nat) : Int)) ∧ Below wr.heap.size wr w2)))
          have HT17 := Lib.hid (fun w1 (hB1 : Below wr.heap.size wr w1) => (turn17 x14 w1 b14).mono (fun e w2 h => (⟨h.1, h.2 ▸ hB1⟩ : e = .returned (.int .u32 ((ror x14 17 : Nat) : Int)) ∧ Below wr.heap.size wr w2)))
          have HT19 := Lib.hid (fun w1 (hB1 : Below wr.heap.size wr w1) => (turn19 x14 w1 b14).mono (fun e w2 h => (⟨h.1, h.2 ▸ hB1⟩ : e = .returned (.int .u32 ((ror x14 19 : Nat) : Int)) ∧ Below wr.heap.size wr w2)))
          have HCN := Lib.hid (fun w1 (hB1 : Below wr.heap.size wr w1) => (hB1.cell (p := ⟨w.heap.size + 1, m + 16, none⟩) hwl).trans cN)
          have HF := Lib.hid (fun w1 (hB1 : Below wr.heap.size wr w1) => (hB1.frozen (p := ⟨w.heap.size + 1, m + 16, none⟩) hwl).trans fz)
          have HS0 := Lib.hid (ss0_bits x1 b1)
          have HS1 := Lib.hid (ss1_bits x14 b14)
          have HN := Lib.hid (fun w1 (hB1 : Below wr.heap.size wr w1) v => (by have h1 := (hW.heap (w' := w1) (hB1.block _ hwl)).snoc (by omega) v; rw [hll] at h1; exact h1 : Arr (w1.setCell ⟨w.heap.size + 1, m + 16, none⟩ (.int .u32 ((v : Nat) : Int))) (w.heap.size + 1) 153 64 .u32 (l ++ [v])))
          have HR2 := Lib.hid (fun w1 (hB1 : Below wr.heap.size wr w1) v => (hR.heap (w' := w1) (hB1.block _ hR.lt)).other ⟨w.heap.size + 1, m + 16, none⟩ v (by simp))
          have HB3 := Lib.hid (fun w1 (hB1 : Below wr.heap.size wr w1) => hB2.trans (hB1.mono hB2.size))
          clear c0 c1 c9 c14 cN fz hn
          go_wp2_with fail
          refine wp_region_class (Below wr.heap.size wr) (by kernel_rfl) (by kernel_rfl) (Below.refl _ _).drew ?_
          repeat (go_big_quiet_step (first | (intro _; rfl) | (intro hq; rw [HC1.out _ hq]; exact ⟨rfl, rfl⟩) | (intro hq; exact HT7.out _ hq) | (intro hq; exact HT18.out _ hq)))
          refine wpQuiet_nil ?_
          intro wq hBq
          rw [HS0.out]
          generalize ss0 x1 = s0 at *
          go_wp2_with fail
          refine wp_region_class (Below wr.heap.size wr) (by kernel_rfl) (by kernel_rfl) hBq.drew ?_
          repeat (go_big_quiet_step (first | (intro _; rfl) | (intro hq; rw [HC14.out _ hq]; exact ⟨rfl, rfl⟩) | (intro hq; exact HT17.out _ hq) | (intro hq; exact HT19.out _ hq)))
          refine wpQuiet_nil ?_
          clear hBq
          clear wq
          intro wq hBq
          rw [HS1.out]
          generalize ss1 x14 = s1 at *
          go_wp2_with fail
          refine wp_region_class_tail (Below wr.heap.size wr) 15 (by kernel_rfl) (by kernel_rfl) hBq.drew ?_
          simp only [List.take_succ_cons, List.take_zero, List.drop_succ_cons, List.drop_zero]
          repeat (go_big_quiet_step (first | (intro _; rfl) | (intro hq; rw [HC0.out _ hq]; exact ⟨rfl, rfl⟩) | (intro hq; rw [HC9.out _ hq]; exact ⟨rfl, rfl⟩)))
          refine wpQuiet_nil ?_
          clear hBq
          clear wq
          intro wq hBq
          have k1 := HCN.out _ hBq
          have k2 := HF.out _ hBq
          go_wp2_with fail
          go_roundg (gk - 1)
          case measure => omega
          case rel => exact ⟨m + 1, by omega, by go_num, HR2.out _ hBq _, by rw [Hnx.out, show ((x0 : Int) + s0 + x9 + s1) % 4294967296 = (((x0 + s0 + x9 + s1) % 4294967296 : Nat) : Int) by omega]; exact HN.out _ hBq _, (HB3.out _ hBq).setCell (by simp) _⟩
        · have hnl : ¬ (m : Int) + 16 < 64 := by omega
          obtain rfl : m = 48 := by omega
          have hwh := hW.whole (wordsL_len B)
          obtain ⟨old, ho1, ho2, _⟩ := hR
          have HB := Lib.hid hB2
          have Hwh := Lib.hid hwh
          have Ho1 := Lib.hid ho1
          clear hB2 hW hwh ho1
          have hz48 : (Tryz.prog.info? 153).map (·.size) = some (ints .u32 (wordsL B)).size := by
            rw [ints_size, wordsL_len]; kernel_rfl
          have Hz := Lib.hid hz48
          clear hz48
          have ho3 : old.size = (ints .u32 (wordsL B)).size := by rw [ints_size, wordsL_len, ho2]
          have Ho3 := Lib.hid ho3
          clear ho3 ho2
          go_wp2_with (first
            | (refine wpList_load_row rfl 153 _ rfl (w.heap.size + 1) rfl 153 (ints .u32 (wordsL B)) (0, 0) _ Hwh.out Tryz.underlying153 rfl Hz.out ?_)
            | (refine wpList_store_rowTo rfl 153 _ _ rfl rfl w.heap.size (ints .u32 (wordsL B)) rfl rfl 153 _ Ho1.out Hz.out Ho3.out (ints_one _ _) ?_))
          refine bodyPost_ret (v := .agg (ints .u32 (wordsL B))) (results_cell_row (fr := (0, 0)) rfl _ _ w.heap.size 153 _ _ rfl (setRow_heap _ _ _ _ _ _ Ho1.out) Tryz.underlying153 rfl Hz.out) rfl ⟨rfl, below_setRow HB.out (Nat.le_refl _) _⟩
end Go.Proofs.YtdhaanaenklleaaGreatDoor.S
namespace Go.Proofs.YtdhaanaenklleaaGreatDoor.S
open Go.RowKit

structure St where
  a : Nat
  b : Nat
  c : Nat
  d : Nat
  e : Nat
  f : Nat
  g : Nat
  h : Nat
def St.p (s : St) (k w : Nat) : Nat := (s.h + sb1 s.e + ch s.e s.f s.g + k + w) % 4294967296
def St.q (s : St) : Nat := (sb0 s.a + maj s.a s.b s.c) % 4294967296
def St.step (s : St) (k w : Nat) : St := ⟨(s.p k w + s.q) % 4294967296, s.a, s.b, s.c, (s.d + s.p k w) % 4294967296, s.e, s.f, s.g⟩
def St.rounds (W : List Nat) (s : St) : Nat → St
  | 0 => s
  | i + 1 => (St.rounds W s i).step (K64.getD i 0) (W.getD i 0)
def St.list (s : St) : List Nat := [s.a, s.b, s.c, s.d, s.e, s.f, s.g, s.h]
def St.ok (s : St) : Prop := s.a < 4294967296 ∧ s.b < 4294967296 ∧ s.c < 4294967296 ∧ s.d < 4294967296 ∧ s.e < 4294967296 ∧ s.f < 4294967296 ∧ s.g < 4294967296 ∧ s.h < 4294967296
def St.plus (s t : St) : St := ⟨(s.a + t.a) % 4294967296, (s.b + t.b) % 4294967296, (s.c + t.c) % 4294967296, (s.d + t.d) % 4294967296, (s.e + t.e) % 4294967296, (s.f + t.f) % 4294967296, (s.g + t.g) % 4294967296, (s.h + t.h) % 4294967296⟩
def St.block (s : St) (B : List Nat) : St := s.plus (s.rounds (wordsL B) 64)
theorem St.ok_step {s : St} (h : s.ok) (k w : Nat) : (s.step k w).ok := by
  obtain ⟨h1, h2, h3, h4, h5, h6, h7, h8⟩ := h
  exact ⟨Nat.mod_lt _ (by decide), h1, h2, h3, Nat.mod_lt _ (by decide), h5, h6, h7⟩
theorem St.ok_rounds {s : St} (h : s.ok) (W : List Nat) (i : Nat) : (s.rounds W i).ok := by
  induction i with
  | zero => exact h
  | succ i ih => exact St.ok_step ih _ _
theorem St.ok_plus (s t : St) : (s.plus t).ok := by
  refine ⟨?_, ?_, ?_, ?_, ?_, ?_, ?_, ?_⟩ <;> exact Nat.mod_lt _ (by decide)
theorem k64_small : Small 4294967296 K64 := fun j => by
  by_cases h : j < 64
  · have : ∀ i : Fin 64, K64.getD i.val 0 < 4294967296 := by decide +kernel
    exact this ⟨j, h⟩
  · rw [List.getD_eq_getElem?_getD, List.getElem?_eq_none (by rw [k64_len]; omega)]
    decide
theorem maj_bits (a b c : Nat) (ha : a < 4294967296) (hb : b < 4294967296) (hc : c < 4294967296) :
    bits .xor .u32 (bits .xor .u32 (bits .and .u32 (a : Int) (b : Int)) (bits .and .u32 (a : Int) (c : Int))) (bits .and .u32 (b : Int) (c : Int)) = ((maj a b c : Nat) : Int) := by
  rw [u32_and_nat _ _ ha hb, u32_and_nat _ _ ha hc, u32_and_nat _ _ hb hc, xor3 _ _ _ (and32 ha) (and32 ha) (and32 hb)]
  rfl
theorem not32 (e : Nat) (he : e < 4294967296) : 4294967295 ^^^ e = 4294967295 - e := by
  have h := congrArg BitVec.toNat (BitVec.not_def (x := BitVec.ofNat 32 e))
  rw [BitVec.toNat_not, BitVec.toNat_xor, BitVec.toNat_allOnes, BitVec.toNat_ofNat, Nat.mod_eq_of_lt he] at h
  exact h.symm
theorem ch_bits (e f g : Nat) (he : e < 4294967296) (hf : f < 4294967296) (hg : g < 4294967296) :
    bits .xor .u32 (bits .and .u32 (e : Int) (f : Int)) (bits .and .u32 (bits .xor .u32 (if IntKind.u32.signed = true then -1 else IntKind.u32.max) (e : Int)) (g : Int)) = ((ch e f g : Nat) : Int) := by
  rw [show (if IntKind.u32.signed = true then -1 else IntKind.u32.max) = ((4294967295 : Nat) : Int) from rfl, u32_xor_nat _ _ (by decide) he, not32 e he, u32_and_nat _ _ he hf, u32_and_nat _ _ (by omega) hg, u32_xor_nat _ _ (and32 he) (and32 (by omega))]
  rfl
theorem p_bits (a b c d e f g h k x : Nat) (he : e < 4294967296) (hf : f < 4294967296) (hg : g < 4294967296) :
    ((((h : Int) + ((sb1 e : Nat) : Int) + bits .xor .u32 (bits .and .u32 (e : Int) (f : Int)) (bits .and .u32 (bits .xor .u32 (if IntKind.u32.signed = true then -1 else IntKind.u32.max) (e : Int)) (g : Int)) + (k : Int)) % 4294967296 + (x : Int)) % 4294967296) = ((St.p ⟨a, b, c, d, e, f, g, h⟩ k x : Nat) : Int) := by
  rw [ch_bits e f g he hf hg]
  simp only [St.p]
  omega
theorem q_bits (a b c d e f g h : Nat) (ha : a < 4294967296) (hb : b < 4294967296) (hc : c < 4294967296) :
    (((sb0 a : Nat) : Int) + bits .xor .u32 (bits .xor .u32 (bits .and .u32 (a : Int) (b : Int)) (bits .and .u32 (a : Int) (c : Int))) (bits .and .u32 (b : Int) (c : Int))) % 4294967296 = ((St.q ⟨a, b, c, d, e, f, g, h⟩ : Nat) : Int) := by
  rw [maj_bits a b c ha hb hc]
  simp only [St.q]
  omega
theorem cast_add (m n : Nat) : ((m : Int) + (n : Int)) % 4294967296 = (((m + n) % 4294967296 : Nat) : Int) := by omega
theorem pq_lt (s : St) (k w : Nat) : s.p k w < 4294967296 ∧ s.q < 4294967296 := ⟨Nat.mod_lt _ (by decide), Nat.mod_lt _ (by decide)⟩
theorem blk_eq (S : St) (B : List Nat) : S.block B = S.plus (S.rounds (wordsL B) 64) := rfl
theorem getD_range (F : Nat → Nat) (n j : Nat) (h : j < n) : ((List.range n).map F).getD j 0 = F j := by simp [List.getD_eq_getElem?_getD, h]
theorem Arr.congr {w : World} {b t n : Nat} {k : IntKind} {l l' : List Nat} (h : Arr w b t n k l) (hl : ∀ j, j < n → l'.getD j 0 = l.getD j 0) : Arr w b t n k l' := by
  obtain ⟨cur, h1, h2, h3⟩ := h
  exact ⟨cur, h1, h2, fun j hj => by rw [h3 j hj, hl j hj]⟩
theorem list_len (s : St) : s.list.length = 8 := rfl
theorem list_plus_get (S s : St) (j : Nat) (hj : j < 8) : (S.plus s).list.getD j 0 = (S.list.getD j 0 + s.list.getD j 0) % 4294967296 := by
  match j, hj with
  | 0, _ => simp [St.plus, St.list]
  | 1, _ => simp [St.plus, St.list]
  | 2, _ => simp [St.plus, St.list]
  | 3, _ => simp [St.plus, St.list]
  | 4, _ => simp [St.plus, St.list]
  | 5, _ => simp [St.plus, St.list]
  | 6, _ => simp [St.plus, St.list]
  | 7, _ => simp [St.plus, St.list]
/-- The list's number: a block's words, all known. -/
def KeysAt (w : World) : Prop := 0 < w.heap.size ∧ ∀ j, j < 64 → w.cell? ⟨0, j, none⟩ = some (.int .u32 ((K64.getD j 0 : Nat) : Int))
theorem KeysAt.below {w w' : World} {n : Nat} (h : KeysAt w) (hn : 0 < n) (hB : Below n w w') : KeysAt w' :=
  ⟨Nat.lt_of_lt_of_le h.1 hB.size, fun j hj => (hB.cell (p := ⟨0, j, none⟩) hn).trans (h.2 j hj)⟩
end Go.Proofs.YtdhaanaenklleaaGreatDoor.S
namespace Go.Proofs.YtdhaanaenklleaaGreatDoor.S
set_option linter.unusedVariables false
open Go.ChangeShapes Go.WideShapes Go.ChangeAt Go.RowKit

/-- The block s alone may have turned, of what was there. -/
def But (s : Nat) (w w' : World) : Prop := ∀ i, i < w.heap.size → i ≠ s → w'.heap[i]? = w.heap[i]?

theorem index40 (l : List Nat) (i : Nat) (hl : l.length = 8) (hi : i < 8) (w : World) : (Instr.index 136 (.agg (ints .u32 l)) (.int .i64 (i : Int))).run Tryz.prog w = .ok (.int .u32 ((l.getD i 0 : Nat) : Int)) w := by
  have h1 : 0 ≤ (i : Int) ∧ (i : Int) < ((8 : Nat) : Int) := by omega
  have hz : (sizeOf 130).run Tryz.prog w = .ok 1 w := by simp [go_sem]
  have he : Tryz.prog.elem 136 = 130 := by kernel_rfl
  simp [Instr.index, run_underlying Tryz.underlying136, asIntOf, hz, go_sem]
  rw [if_pos hi, ints_get _ _ _ (by omega)]
  simp

set_option maxRecDepth 100000 in
set_option maxHeartbeats 600000 in
theorem take_any (B : List Nat) (S : St) (base sb pb t : Nat) (w : World) (hA : Arr w pb t 64 .u8 B) (hS : Arr w sb 137 8 .u32 S.list) (hne : pb ≠ sb) (hs : Small 256 B) (hok : S.ok) (hK : KeysAt w) (hb0 : 0 < base) (hbase : base ≤ sb) :
    Calls Tryz.prog 92 #[.pointer (some ⟨sb, 0, none⟩), .pointer (some ⟨pb, 0, none⟩)] w fun e w' => e = .returned (.tuple #[]) ∧ Below base w w' ∧ But sb w w' ∧ Arr w' sb 137 8 .u32 (S.block B).list := by
  have hsb := hS.lt
  have HW := Lib.hid (words_any B pb t w hA hs)
  have HA := Lib.hid hA
  have HS := Lib.hid hS
  have HK := Lib.hid hK
  have hz48 : (Tryz.prog.info? 153).map (·.size) = some (ints .u32 (wordsL B)).size := by
    rw [ints_size, wordsL_len]; kernel_rfl
  have Hz := Lib.hid hz48
  have Hl := Lib.hid (wordsL_len B)
  have Hsm := Lib.hid (wordsL_small hs)
  clear hA hS hK hz48
  go_enter Tryz.func92, Tryz.ntmps92
  go_wp2_with fail
  refine HW.out.mono ?_
  rintro e w1 ⟨rfl, hB1⟩
  have Hblk := Lib.hid (blk_eq S B)
  generalize wordsL B = L at *
  have hold : (Array.replicate 64 (Value.int .u32 0)).size = (ints .u32 L).size := by rw [ints_size, Hl.out, Array.size_replicate]
  have Hold := Lib.hid hold
  clear hold
  have hc1 : Arr (w1.alloc (.cells (ints .u32 L) 153)) w1.heap.size 153 64 .u32 L := arr_ints (heap_alloc_new w1 _) Hl.out
  have hc2 : Below w.heap.size w (w1.alloc (.cells (ints .u32 L) 153)) := hB1.alloc hB1.size _
  have HB1 := Lib.hid hB1
  have hlb : w.heap.size ≤ w1.heap.size := hB1.size
  obtain ⟨w2, hw2⟩ : ∃ w2, w2 = w1.alloc (.cells (ints .u32 L) 153) := ⟨_, rfl⟩
  have hlb2 : w1.heap.size < w2.heap.size := by rw [hw2]; simp
  rw [← hw2] at hc1 hc2
  have HL2 := Lib.hid hc1
  have HB2 := Lib.hid hc2
  have HW2 := Lib.hid hw2
  have HS2 := Lib.hid (HS.out.below hc2)
  have HK2 := Lib.hid (HK.out.below (HK.out.1) hc2)
  clear hc1 hc2 hB1 hw2
  go_wp2_with (refine wpList_store_rowTo rfl 153 _ _ rfl rfl w1.heap.size (ints .u32 L) rfl rfl 153 _ (heap_alloc_new w1 _) Hz.out Hold.out (ints_one _ _) ?_; rw [World.setRow_alloc_new, ← HW2.out])
  clear HW2 HB1 Hold
  have hsb2 := HS2.out.lt
  have HC0 := Lib.hid (fun w3 (h3 : Below w2.heap.size w2 w3) => (h3.cell (p := ⟨sb, 0, none⟩) hsb2).trans (HS2.out.cell 0 (by omega)))
  have HC1 := Lib.hid (fun w3 (h3 : Below w2.heap.size w2 w3) => (h3.cell (p := ⟨sb, 1, none⟩) hsb2).trans (HS2.out.cell 1 (by omega)))
  have HC2 := Lib.hid (fun w3 (h3 : Below w2.heap.size w2 w3) => (h3.cell (p := ⟨sb, 2, none⟩) hsb2).trans (HS2.out.cell 2 (by omega)))
  have HC3 := Lib.hid (fun w3 (h3 : Below w2.heap.size w2 w3) => (h3.cell (p := ⟨sb, 3, none⟩) hsb2).trans (HS2.out.cell 3 (by omega)))
  have HC4 := Lib.hid (fun w3 (h3 : Below w2.heap.size w2 w3) => (h3.cell (p := ⟨sb, 4, none⟩) hsb2).trans (HS2.out.cell 4 (by omega)))
  have HC5 := Lib.hid (fun w3 (h3 : Below w2.heap.size w2 w3) => (h3.cell (p := ⟨sb, 5, none⟩) hsb2).trans (HS2.out.cell 5 (by omega)))
  have HC6 := Lib.hid (fun w3 (h3 : Below w2.heap.size w2 w3) => (h3.cell (p := ⟨sb, 6, none⟩) hsb2).trans (HS2.out.cell 6 (by omega)))
  have HC7 := Lib.hid (fun w3 (h3 : Below w2.heap.size w2 w3) => (h3.cell (p := ⟨sb, 7, none⟩) hsb2).trans (HS2.out.cell 7 (by omega)))
  simp only [St.list, List.getD_cons_zero, List.getD_cons_succ] at HC0 HC1 HC2 HC3 HC4 HC5 HC6 HC7
  refine wp_region_class (Below w2.heap.size w2) (by kernel_rfl) (by kernel_rfl) (Below.refl _ _).drew ?_
  repeat (go_big_quiet_step (first | (intro _; rfl) | (intro hq; rw [HC0.out _ hq]; exact ⟨rfl, rfl⟩) | (intro hq; rw [HC1.out _ hq]; exact ⟨rfl, rfl⟩) | (intro hq; rw [HC2.out _ hq]; exact ⟨rfl, rfl⟩) | (intro hq; rw [HC3.out _ hq]; exact ⟨rfl, rfl⟩) | (intro hq; rw [HC4.out _ hq]; exact ⟨rfl, rfl⟩) | (intro hq; rw [HC5.out _ hq]; exact ⟨rfl, rfl⟩) | (intro hq; rw [HC6.out _ hq]; exact ⟨rfl, rfl⟩) | (intro hq; rw [HC7.out _ hq]; exact ⟨rfl, rfl⟩)))
  refine wpQuiet_nil ?_
  intro w3 hB3
  go_wp2_with fail
  go_loopg [5, 6, 7, 8, 9, 10, 11, 12, 52] 64 (fun n av bv cv dv ev fv gv hv iv wr => ∃ (i : Nat) (s : St), i + n = 64 ∧ iv = .int .i64 i ∧ s = S.rounds L i ∧ av = .int .u32 s.a ∧ bv = .int .u32 s.b ∧ cv = .int .u32 s.c ∧ dv = .int .u32 s.d ∧ ev = .int .u32 s.e ∧ fv = .int .u32 s.f ∧ gv = .int .u32 s.g ∧ hv = .int .u32 s.h ∧ Below w2.heap.size w2 wr)
  case atStart => exact ⟨0, S, by omega, rfl, rfl, rfl, rfl, rfl, rfl, rfl, rfl, rfl, rfl, hB3⟩
  case round =>
    obtain ⟨i, s, hig, rfl, hs, rfl, rfl, rfl, rfl, rfl, rfl, rfl, rfl, hBr⟩ := hrel
    by_cases hlt : i < 64
    · have hltI : (i : Int) < 64 := by omega
      have hsok : s.ok := by rw [hs]; exact St.ok_rounds hok _ _
      have hnext : S.rounds L (i + 1) = s.step (K64.getD i 0) (L.getD i 0) := by rw [hs]; rfl
      obtain ⟨a, b, c, d, e, f, g, z⟩ := s
      obtain ⟨h1, h2, h3, h4, h5, h6, h7, h8⟩ := hsok
      simp only at h1 h2 h3 h4 h5 h6 h7 h8
      simp only
      have cK := (HK2.out.below HK2.out.1 hBr).2 i hlt
      have cL := (HL2.out.below hBr).cell i hlt
      have bK := k64_small i
      have bL := Hsm.out i
      have Hnext := Lib.hid hnext
      have HsE := Lib.hid hs
      clear hnext hs
      generalize K64.getD i 0 = k at *
      generalize L.getD i 0 = x at *
      have HCK := Lib.hid (fun w3 (hw : Below wr.heap.size wr w3) => (hw.cell (p := ⟨0, i, none⟩) (Nat.lt_of_lt_of_le HK2.out.1 hBr.size)).trans cK)
      have HCL := Lib.hid (fun w3 (hw : Below wr.heap.size wr w3) => (hw.cell (p := ⟨w1.heap.size, i, none⟩) (Nat.lt_of_lt_of_le hlb2 hBr.size)).trans cL)
      have HE := Lib.hid (fun w3 (hw : Below wr.heap.size wr w3) => (mixE_any e w3 h5).mono (fun r w4 hh => (⟨hh.1, hh.2 ▸ hw⟩ : r = .returned (.int .u32 ((sb1 e : Nat) : Int)) ∧ Below wr.heap.size wr w4)))
      clear cK cL
      go_wp2_with fail
      refine wp_region_class (Below wr.heap.size wr) (by kernel_rfl) (by kernel_rfl) (Below.refl _ _).drew ?_
      repeat (go_big_quiet_step (first | (intro _; rfl) | (intro hq; rw [HCK.out _ hq]; exact ⟨rfl, rfl⟩) | (intro hq; rw [HCL.out _ hq]; exact ⟨rfl, rfl⟩) | (intro hq; exact HE.out _ hq)))
      refine wpQuiet_nil ?_
      intro wq hBq
      rw [p_bits a b c d e f g z k x h5 h6 h7]
      have Hpe := Lib.hid (rfl : St.p ⟨a, b, c, d, e, f, g, z⟩ k x = St.p ⟨a, b, c, d, e, f, g, z⟩ k x)
      obtain ⟨P, hP⟩ : ∃ P, P = St.p ⟨a, b, c, d, e, f, g, z⟩ k x := ⟨_, rfl⟩
      have hPl : P < 4294967296 := hP ▸ (pq_lt ⟨a, b, c, d, e, f, g, z⟩ k x).1
      rw [← hP]
      have HP := Lib.hid hP
      clear hP
      go_wp2_with fail
      refine (mixA_any a _ h1).mono ?_
      rintro r w4 ⟨rfl, rfl⟩
      go_wp2_with fail
      go_roundg (gk - 1)
      case measure => omega
      case rel => exact ⟨i + 1, St.step ⟨a, b, c, d, e, f, g, z⟩ k x, by omega, by go_num, Hnext.out.symm, by rw [q_bits a b c d e f g z h1 h2 h3, cast_add, HP.out]; rfl, rfl, rfl, rfl, by rw [cast_add, HP.out]; rfl, rfl, rfl, rfl, hBr.trans (hBq.mono hBr.size)⟩
    · have hnl : ¬ (i : Int) < 64 := by omega
      obtain rfl : i = 64 := by omega
      have HbS := Lib.hid hs
      clear hs
      obtain ⟨a, b, c, d, e, f, g, z⟩ := s
      simp only
      have hS3 := HS2.out.below hBr
      have HBr := Lib.hid hBr
      have HsB := Lib.hid (Nat.lt_of_lt_of_le hsb2 hBr.size)
      have hT : (S.plus ⟨a, b, c, d, e, f, g, z⟩).list = (S.block B).list := by rw [HbS.out, Hblk.out]
      obtain ⟨T, hTe⟩ : ∃ T, T = (S.block B).list := ⟨_, rfl⟩
      rw [← hTe] at hT
      have hgT : ∀ j, j < 8 → T.getD j 0 = (S.list.getD j 0 + [a, b, c, d, e, f, g, z].getD j 0) % 4294967296 := fun j hj => by rw [← hT]; exact list_plus_get S _ j hj
      have hTl : T.length = 8 := by rw [← hT, list_len]
      have HTe := Lib.hid hTe
      have HgT := Lib.hid hgT
      clear hBr hT hTe hgT
      go_wp2_with fail
      obtain ⟨wo, hwo⟩ : ∃ wo, wo = wr := ⟨_, rfl⟩
      rw [← hwo] at HBr HsB hS3 ⊢
      have hS4 := Lib.hid hS3
      clear hwo hS3
      go_loopg [112] 8 (fun n iv wr => ∃ i : Nat, i + n = 8 ∧ iv = .int .i64 i ∧ (∃ l, Arr wr sb 137 8 .u32 l ∧ ∀ j, j < 8 → l.getD j 0 = if j < i then T.getD j 0 else S.list.getD j 0) ∧ wo.heap.size ≤ wr.heap.size ∧ Below base wo wr ∧ (∀ j, j < wo.heap.size → j ≠ sb → wr.heap[j]? = wo.heap[j]?))
      case atStart => exact ⟨0, by omega, rfl, ⟨S.list, hS4.out, fun j hj => by simp⟩, Nat.le_refl _, Below.refl _ _, fun _ _ _ => rfl⟩
      case round =>
        obtain ⟨i, hig, rfl, ⟨l, hA, hl⟩, hsz, hBb, hBut⟩ := hrel
        by_cases hlt : i < 8
        · have hix : (Instr.index 136 (.agg #[.int .u32 (a : Int), .int .u32 (b : Int), .int .u32 (c : Int), .int .u32 (d : Int), .int .u32 (e : Int), .int .u32 (f : Int), .int .u32 (g : Int), .int .u32 (z : Int)]) (.int .i64 (i : Int))).run Tryz.prog wr = .ok (.int .u32 (([a, b, c, d, e, f, g, z].getD i 0 : Nat) : Int)) wr := index40 [a, b, c, d, e, f, g, z] i rfl hlt wr
          have hg := HgT.out i hlt
          have hc := hA.cell i hlt
          have hf := hA.free i
          rw [hl i hlt, if_neg (Nat.lt_irrefl i)] at hc
          have hsbr := hA.lt
          have Hn := Lib.hid (fun w3 (h : Below wr.heap.size wr w3) (v : Nat) (l' : List Nat) => (hA.heap (w' := w3) (h.block sb hsbr)).set hlt v l')
          have HCc := Lib.hid (fun w3 (h : Below wr.heap.size wr w3) => (h.cell (p := ⟨sb, i, none⟩) hsbr).trans hc)
          have HF := Lib.hid (fun w3 (h : Below wr.heap.size wr w3) => (h.frozen (p := ⟨sb, i, none⟩) hsbr).trans hf)
          have Hg := Lib.hid hg
          have Hl2 := Lib.hid hl
          have hbr : base ≤ wr.heap.size := by omega
          have HBb := Lib.hid (fun w3 (h : Below wr.heap.size wr w3) v => (hBb.trans (h.mono hbr)).setCell (p := ⟨sb, i, none⟩) hbase v)
          have HBut := Lib.hid (fun w3 (h : Below wr.heap.size wr w3) v j (hj : j < wo.heap.size) (hjs : j ≠ sb) => (heap_setCell_other w3 ⟨sb, i, none⟩ j v hjs).trans ((h.block j (by omega)).trans (hBut j hj hjs)))
          clear hg hl hBut hc hf hA hBb
          generalize [a, b, c, d, e, f, g, z].getD i 0 = y at *
          generalize S.list.getD i 0 = v0 at *
          have hltI : (i : Int) < 8 := by omega
          go_wp2_with fail
          refine wp_region_class_tail (Below wr.heap.size wr) 9 (by kernel_rfl) (by kernel_rfl) (Below.refl _ _).drew ?_
          simp only [List.take_succ_cons, List.take_zero, List.drop_succ_cons, List.drop_zero]
          repeat (go_big_quiet_step (first | (intro _; rfl) | (intro hq; rw [HCc.out _ hq]; exact ⟨rfl, rfl⟩)))
          refine wpQuiet_nil ?_
          intro wq hBq
          have k1 := HCc.out _ hBq
          have k2 := HF.out _ hBq
          go_wp2_with fail
          go_roundg (gk - 1)
          case measure => omega
          case rel =>
            refine ⟨i + 1, by omega, by go_num, ⟨(List.range 8).map (fun j => if j < i + 1 then T.getD j 0 else S.list.getD j 0), ?_, fun j hj => getD_range _ 8 j hj⟩, ?_, HBb.out _ hBq _, HBut.out _ hBq _⟩
            · rw [cast_add, ← Hg.out]
              refine Hn.out _ hBq _ _ fun j hj => ?_
              rw [getD_range _ 8 j hj, Hl2.out j hj]
              by_cases e1 : i = j
              · subst e1; rw [if_pos rfl, if_pos (by omega)]
              · rw [if_neg e1]
                by_cases e2 : j < i
                · rw [if_pos e2, if_pos (by omega)]
                · rw [if_neg e2, if_neg (by omega)]
            · have := hBq.size
              simp [World.setCell]
              omega
        · have hnl : ¬ (i : Int) < 8 := by omega
          obtain rfl : i = 8 := by omega
          have h1 := HB2.out.size
          have h2 := HBr.out.size
          have Hf1 := Lib.hid (((HB2.out.mono (by omega : base ≤ w.heap.size)).trans (HBr.out.mono (by omega))).trans hBb)
          have Hf2 := Lib.hid (fun j (hj : j < w.heap.size) (hjs : j ≠ sb) => (hBut j (by omega) hjs).trans ((HBr.out.block j (by omega)).trans (HB2.out.block j hj)))
          have Hf3 := Lib.hid (hA.congr (l' := T) fun j hj => by rw [hl j hj, if_pos hj])
          clear hBut hA hl
          clear hBb
          go_wp2_with fail
          refine bodyPost_end (v := .tuple #[]) (by simp [results, Tryz.results92]) rfl ⟨rfl, Hf1.out, Hf2.out, ?_⟩
          rw [← HTe.out]
          exact Hf3.out
end Go.Proofs.YtdhaanaenklleaaGreatDoor.S
namespace Go.Proofs.YtdhaanaenklleaaGreatDoor.S
set_option linter.unusedVariables false
open Go.ChangeShapes Go.WideShapes Go.ChangeAt Go.RowKit

def Base (w wr : World) (SL KK : List Nat) : Prop :=
  Arr wr w.heap.size 136 8 .u32 SL ∧ Arr wr (w.heap.size + 1) 153 64 .u32 KK ∧ Arr wr (w.heap.size + 1 + 1) 136 8 .u32 [] ∧ Below w.heap.size w wr ∧ w.heap.size + 1 + 1 + 1 < wr.heap.size
theorem Base.below {w wr w' : World} {SL KK : List Nat} (h : Base w wr SL KK) (hB : Below wr.heap.size wr w') : Base w w' SL KK := by
  obtain ⟨h1, h2, h3, h4, h5⟩ := h
  exact ⟨h1.below hB, h2.below hB, h3.below hB, h4.trans (hB.mono h4.size), Nat.lt_of_lt_of_le h5 hB.size⟩
theorem Base.set {w wr : World} {SL KK : List Nat} (h : Base w wr SL KK) (i : Nat) (v : Value) : Base w (wr.setCell ⟨w.heap.size + 1 + 1 + 1, i, none⟩ v) SL KK := by
  obtain ⟨h1, h2, h3, h4, h5⟩ := h
  exact ⟨h1.other _ _ (by show w.heap.size ≠ w.heap.size + 1 + 1 + 1; omega), h2.other _ _ (by show w.heap.size + 1 ≠ w.heap.size + 1 + 1 + 1; omega), h3.other _ _ (by show w.heap.size + 1 + 1 ≠ w.heap.size + 1 + 1 + 1; omega), h4.setCell (by show w.heap.size ≤ w.heap.size + 1 + 1 + 1; omega) _, by simp [World.setCell]; omega⟩
theorem Base.start (w : World) (SL KK : List Nat) (h1 : SL.length = 8) (h2 : KK.length = 64) (z8 z64 : Array Value) (hz8 : z8 = Array.replicate 8 (.int .u32 0)) (hz : z64 = Array.replicate 64 (.int .u32 0)) :
    Base w ((((w.alloc (.cells (ints .u32 SL) 136)).alloc (.cells (ints .u32 KK) 153)).alloc (.cells z8 136)).alloc (.cells z64 153)) SL KK ∧
    Arr ((((w.alloc (.cells (ints .u32 SL) 136)).alloc (.cells (ints .u32 KK) 153)).alloc (.cells z8 136)).alloc (.cells z64 153)) (w.heap.size + 1 + 1 + 1) 153 64 .u32 [] := by
  obtain ⟨w1, e1⟩ : ∃ w1, w1 = w.alloc (.cells (ints .u32 SL) 136) := ⟨_, rfl⟩
  obtain ⟨w2, e2⟩ : ∃ w2, w2 = w1.alloc (.cells (ints .u32 KK) 153) := ⟨_, rfl⟩
  obtain ⟨w3, e3⟩ : ∃ w3, w3 = w2.alloc (.cells z8 136) := ⟨_, rfl⟩
  obtain ⟨w4, e4⟩ : ∃ w4, w4 = w3.alloc (.cells z64 153) := ⟨_, rfl⟩
  rw [← e1, ← e2, ← e3, ← e4]
  have s1 : w1.heap.size = w.heap.size + 1 := by rw [e1]; simp
  have s2 : w2.heap.size = w.heap.size + 1 + 1 := by rw [e2]; simp [s1]
  have s3 : w3.heap.size = w.heap.size + 1 + 1 + 1 := by rw [e3]; simp [s2]
  have s4 : w4.heap.size = w.heap.size + 1 + 1 + 1 + 1 := by rw [e4]; simp [s3]
  have b1 : Below w.heap.size w w1 := e1 ▸ (Below.refl _ _).alloc (Nat.le_refl _) _
  have b2 : Below w1.heap.size w1 w2 := e2 ▸ (Below.refl _ _).alloc (Nat.le_refl _) _
  have b3 : Below w2.heap.size w2 w3 := e3 ▸ (Below.refl _ _).alloc (Nat.le_refl _) _
  have b4 : Below w3.heap.size w3 w4 := e4 ▸ (Below.refl _ _).alloc (Nat.le_refl _) _
  have a1 : Arr w1 w.heap.size 136 8 .u32 SL := e1 ▸ arr_ints (heap_alloc_new w _) h1
  have a2 : Arr w2 w1.heap.size 153 64 .u32 KK := e2 ▸ arr_ints (heap_alloc_new w1 _) h2
  have a3 : Arr w3 w2.heap.size 136 8 .u32 [] := e3 ▸ arr_zero (heap_alloc_new w2 _) hz8
  have a4 : Arr w4 w3.heap.size 153 64 .u32 [] := e4 ▸ arr_zero (heap_alloc_new w3 _) hz
  refine ⟨⟨((a1.below b2).below b3).below b4, s1 ▸ (a2.below b3).below b4, s2 ▸ a3.below b4, ?_, by omega⟩, s3 ▸ a4⟩
  exact ((b1.trans (b2.mono (by omega))).trans (b3.mono (by omega))).trans (b4.mono (by omega))
theorem pw4 (B : List Nat) (i : Nat) : pw B i 4 = ((B.getD (4 * i) 0 * 256 + B.getD (4 * i + 1) 0) * 256 + B.getD (4 * i + 2) 0) * 256 + B.getD (4 * i + 3) 0 := by
  simp [pw]

set_option maxRecDepth 100000 in
set_option maxHeartbeats 1000000 in
theorem next_any (B : List Nat) (S : St) (pb off cap : Nat) (w : World) (hA : ∀ j, j < 64 → w.cell? ⟨pb, off + j, none⟩ = some (.int .u8 ((B.getD j 0 : Nat) : Int))) (hpb : pb < w.heap.size) (hs : Small 256 B) (hok : S.ok) :
    Calls Tryz.prog 101 #[.agg (ints .u32 S.list), .slice (some ⟨pb, off, none⟩) 64 cap, .agg (ints .u32 K64)] w fun e w' => e = .returned (.agg (ints .u32 (S.block B).list)) ∧ Below w.heap.size w w' := by
  have HA := Lib.hid (fun w1 (h : Below w.heap.size w w1) j (hj : j < 64) => (h.cell (p := ⟨pb, off + j, none⟩) hpb).trans (hA j hj))
  have Hblk := Lib.hid (blk_eq S B)
  have Hwe := Lib.hid (fun n => wext_small (pre_small hs 16) n)
  obtain ⟨KK, hKK⟩ : ∃ KK, KK = K64 := ⟨_, rfl⟩
  obtain ⟨SL, hSL⟩ : ∃ SL, SL = S.list := ⟨_, rfl⟩
  rw [← hKK, ← hSL]
  have HKl := Lib.hid (show KK.length = 64 by rw [hKK]; rfl)
  have HSl := Lib.hid (show SL.length = 8 by rw [hSL]; rfl)
  have HKK := Lib.hid hKK
  have HSL := Lib.hid hSL
  clear hA hKK hSL
  go_enter Tryz.func101, Tryz.ntmps101
  go_wp2_with fail
  go_loopg [8] 16 (fun g iv wr => ∃ i : Nat, i + g = 16 ∧ iv = .int .i64 i ∧ Base w wr SL KK ∧ Arr wr (w.heap.size + 1 + 1 + 1) 153 64 .u32 (pre B i))
  case atStart =>
    have h := Base.start w SL KK HSl.out HKl.out _ _ rfl rfl
    exact ⟨0, by omega, rfl, h.1, h.2⟩
  case round =>
    obtain ⟨i, hig, rfl, hBs, hW⟩ := hrel
    by_cases hlt : i < 16
    · have hltI : (i : Int) < 16 := by omega
      have c0 := HA.out wr hBs.2.2.2.1 (4 * i) (by omega)
      have c1 := HA.out wr hBs.2.2.2.1 (4 * i + 1) (by omega)
      have c2 := HA.out wr hBs.2.2.2.1 (4 * i + 2) (by omega)
      have c3 := HA.out wr hBs.2.2.2.1 (4 * i + 3) (by omega)
      have d0 := hs (4 * i)
      have d1 := hs (4 * i + 1)
      have d2 := hs (4 * i + 2)
      have d3 := hs (4 * i + 3)
      have Hpw := Lib.hid (pw4 B i)
      have hwl := hW.lt
      have cN := hW.cell i (by omega)
      have fN := hW.free i
      have hpr : pb < wr.heap.size := Nat.lt_of_lt_of_le hpb hBs.2.2.2.1.size
      generalize B.getD (4 * i) 0 = x0 at *
      generalize B.getD (4 * i + 1) 0 = x1 at *
      generalize B.getD (4 * i + 2) 0 = x2 at *
      generalize B.getD (4 * i + 3) 0 = x3 at *
      have HC0 := Lib.hid (fun w3 (h : Below wr.heap.size wr w3) => (h.cell (p := ⟨pb, off + 4 * i, none⟩) hpr).trans c0)
      have HC1 := Lib.hid (fun w3 (h : Below wr.heap.size wr w3) => (h.cell (p := ⟨pb, off + (4 * i + 1), none⟩) hpr).trans c1)
      have HC2 := Lib.hid (fun w3 (h : Below wr.heap.size wr w3) => (h.cell (p := ⟨pb, off + (4 * i + 2), none⟩) hpr).trans c2)
      have HC3 := Lib.hid (fun w3 (h : Below wr.heap.size wr w3) => (h.cell (p := ⟨pb, off + (4 * i + 3), none⟩) hpr).trans c3)
      have HCN := Lib.hid (fun w3 (h : Below wr.heap.size wr w3) => (h.cell (p := ⟨w.heap.size + 1 + 1 + 1, i, none⟩) hwl).trans cN)
      have HF := Lib.hid (fun w3 (h : Below wr.heap.size wr w3) => (h.frozen (p := ⟨w.heap.size + 1 + 1 + 1, i, none⟩) hwl).trans fN)
      have HN := Lib.hid (fun w3 (h : Below wr.heap.size wr w3) (v : Nat) => (by have h1 := (hW.below h).snoc (by rw [pre_len]; omega) v; rw [pre_len] at h1; exact h1 : Arr (w3.setCell ⟨w.heap.size + 1 + 1 + 1, i, none⟩ (.int .u32 (v : Int))) (w.heap.size + 1 + 1 + 1) 153 64 .u32 (pre B i ++ [v])))
      have HBs := Lib.hid (fun w3 (h : Below wr.heap.size wr w3) v => (hBs.below h).set i v)
      clear c0 c1 c2 c3 cN fN hW hBs
      go_wp2_with fail
      refine wp_region_class_tail (Below wr.heap.size wr) 35 (by kernel_rfl) (by kernel_rfl) (Below.refl _ _).drew ?_
      simp only [List.take_succ_cons, List.take_zero, List.drop_succ_cons, List.drop_zero]
      repeat (go_big_quiet_step (first | (intro _; rfl) | (intro hq; rw [HC0.out _ hq]; exact ⟨rfl, rfl⟩) | (intro hq; rw [HC1.out _ hq]; exact ⟨rfl, rfl⟩) | (intro hq; rw [HC2.out _ hq]; exact ⟨rfl, rfl⟩) | (intro hq; rw [HC3.out _ hq]; exact ⟨rfl, rfl⟩)))
      refine wpQuiet_nil ?_
      intro wq hBq
      have k1 := HCN.out _ hBq
      have k2 := HF.out _ hBq
      go_wp2_with fail
      go_roundg (gk - 1)
      case measure => omega
      case rel => exact ⟨i + 1, by omega, by go_num, HBs.out _ hBq _, by rw [pre_succ, Hpw.out, show (x0 : Int) * 16777216 + x1 * 65536 + x2 * 256 + x3 = ((((x0 * 256 + x1) * 256 + x2) * 256 + x3 : Nat) : Int) by omega]; exact HN.out _ hBq _⟩
    · have hnl : ¬ (i : Int) < 16 := by omega
      obtain rfl : i = 16 := by omega
      have HBs0 := Lib.hid hBs
      have HW0 := Lib.hid hW
      clear hBs hW
      go_wp2_with fail
      go_loopg [9] 48 (fun g iv wr => ∃ m : Nat, m + g = 48 ∧ iv = .int .i64 ((m : Int) + 16) ∧ Base w wr SL KK ∧ Arr wr (w.heap.size + 1 + 1 + 1) 153 64 .u32 (wext (pre B 16) m))
      case atStart => exact ⟨0, by omega, rfl, HBs0.out, HW0.out⟩
      case round =>
        obtain ⟨m, hmg, rfl, hBs, hW⟩ := hrel
        by_cases hm : m < 48
        · have hmI : (m : Int) + 16 < 64 := by omega
          obtain ⟨l, hl⟩ : ∃ l, l = wext (pre B 16) m := ⟨_, rfl⟩
          have hll : l.length = m + 16 := by rw [hl, wext_len, pre_len]; omega
          have hsm : Small 4294967296 l := hl ▸ Hwe.out m
          rw [← hl] at hW
          have hnx : wnext l = (l.getD m 0 + ss0 (l.getD (m + 1) 0) + l.getD (m + 9) 0 + ss1 (l.getD (m + 14) 0)) % 4294967296 := by
            unfold wnext
            rw [hll, show m + 16 - 16 = m by omega, show m + 16 - 15 = m + 1 by omega, show m + 16 - 7 = m + 9 by omega, show m + 16 - 2 = m + 14 by omega]
          have Hnx := Lib.hid (show wext (pre B 16) (m + 1) = l ++ [(l.getD m 0 + ss0 (l.getD (m + 1) 0) + l.getD (m + 9) 0 + ss1 (l.getD (m + 14) 0)) % 4294967296] by rw [← hnx, hl]; rfl)
          have c0 := hW.cell m (by omega)
          have c1 := hW.cell (m + 1) (by omega)
          have c9 := hW.cell (m + 9) (by omega)
          have c14 := hW.cell (m + 14) (by omega)
          have cN := hW.cell (m + 16) (by omega)
          have fz := hW.free (m + 16)
          have hwl := hW.lt
          have b0 := hsm m
          have b1 := hsm (m + 1)
          have b9 := hsm (m + 9)
          have b14 := hsm (m + 14)
          clear hnx hl
          generalize l.getD m 0 = x0 at *
          generalize l.getD (m + 1) 0 = x1 at *
          generalize l.getD (m + 9) 0 = x9 at *
          generalize l.getD (m + 14) 0 = x14 at *
          have HC0 := Lib.hid (fun w1 (hB1 : Below wr.heap.size wr w1) => (hB1.cell (p := ⟨w.heap.size + 1 + 1 + 1, m, none⟩) hwl).trans c0)
          have HC1 := Lib.hid (fun w1 (hB1 : Below wr.heap.size wr w1) => (hB1.cell (p := ⟨w.heap.size + 1 + 1 + 1, m + 1, none⟩) hwl).trans c1)
          have HC9 := Lib.hid (fun w1 (hB1 : Below wr.heap.size wr w1) => (hB1.cell (p := ⟨w.heap.size + 1 + 1 + 1, m + 9, none⟩) hwl).trans c9)
          have HC14 := Lib.hid (fun w1 (hB1 : Below wr.heap.size wr w1) => (hB1.cell (p := ⟨w.heap.size + 1 + 1 + 1, m + 14, none⟩) hwl).trans c14)
          have HCN := Lib.hid (fun w1 (hB1 : Below wr.heap.size wr w1) => (hB1.cell (p := ⟨w.heap.size + 1 + 1 + 1, m + 16, none⟩) hwl).trans cN)
          have HF := Lib.hid (fun w1 (hB1 : Below wr.heap.size wr w1) => (hB1.frozen (p := ⟨w.heap.size + 1 + 1 + 1, m + 16, none⟩) hwl).trans fz)
          have HS0 := Lib.hid (ss0_bits x1 b1)
          have HS1 := Lib.hid (ss1_bits x14 b14)
          have HN := Lib.hid (fun w1 (hB1 : Below wr.heap.size wr w1) v => (by have h1 := (hW.below hB1).snoc (by omega) v; rw [hll] at h1; exact h1 : Arr (w1.setCell ⟨w.heap.size + 1 + 1 + 1, m + 16, none⟩ (.int .u32 ((v : Nat) : Int))) (w.heap.size + 1 + 1 + 1) 153 64 .u32 (l ++ [v])))
          have HBs := Lib.hid (fun w1 (hB1 : Below wr.heap.size wr w1) v => (hBs.below hB1).set (m + 16) v)
          clear c0 c1 c9 c14 cN fz hW hBs
          go_wp2_with fail
          refine wp_region_class (Below wr.heap.size wr) (by kernel_rfl) (by kernel_rfl) (Below.refl _ _).drew ?_
          repeat (go_big_quiet_step (first | (intro _; rfl) | (intro hq; rw [HC1.out _ hq]; exact ⟨rfl, rfl⟩) | (intro hq; rw [HC14.out _ hq]; exact ⟨rfl, rfl⟩)))
          refine wpQuiet_nil ?_
          intro wq hBq
          go_wp2_with fail
          refine (dturn7 x1 _ b1).mono ?_
          rintro r1 q1 ⟨rfl, rfl⟩
          go_wp2_with fail
          refine (dturn18 x1 _ b1).mono ?_
          rintro r1 q1 ⟨rfl, rfl⟩
          go_wp2_with fail
          refine (dturn17 x14 _ b14).mono ?_
          rintro r1 q1 ⟨rfl, rfl⟩
          go_wp2_with fail
          refine (dturn19 x14 _ b14).mono ?_
          rintro r1 q1 ⟨rfl, rfl⟩
          go_wp2_with fail
          rw [HS0.out, HS1.out]
          generalize ss0 x1 = s0 at *
          generalize ss1 x14 = s1 at *
          refine wp_region_class_tail (Below wr.heap.size wr) 15 (by kernel_rfl) (by kernel_rfl) hBq.drew ?_
          simp only [List.take_succ_cons, List.take_zero, List.drop_succ_cons, List.drop_zero]
          repeat (go_big_quiet_step (first | (intro _; rfl) | (intro hq; rw [HC0.out _ hq]; exact ⟨rfl, rfl⟩) | (intro hq; rw [HC9.out _ hq]; exact ⟨rfl, rfl⟩)))
          refine wpQuiet_nil ?_
          clear hBq
          intro wq hBq
          have k1 := HCN.out _ hBq
          have k2 := HF.out _ hBq
          go_wp2_with fail
          go_roundg (gk - 1)
          case measure => omega
          case rel => exact ⟨m + 1, by omega, by go_num, HBs.out _ hBq _, by rw [Hnx.out, show ((x0 : Int) + s0 + x9 + s1) % 4294967296 = (((x0 + s0 + x9 + s1) % 4294967296 : Nat) : Int) by omega]; exact HN.out _ hBq _⟩
        · have hnl : ¬ (m : Int) + 16 < 64 := by omega
          obtain rfl : m = 48 := by omega
          have hW2 : Arr wr (w.heap.size + 1 + 1 + 1) 153 64 .u32 (wordsL B) := hW
          have Hsm := Lib.hid (wordsL_small hs)
          generalize wordsL B = L at *
          obtain ⟨w2, hw2⟩ : ∃ w2, w2 = wr := ⟨_, rfl⟩
          rw [← hw2] at hW2 hBs ⊢
          clear hW hw2
          have HL2 := Lib.hid hW2
          have hS2 := hBs.1
          have hK2 := hBs.2.1
          rw [HSL.out] at hS2
          rw [HKK.out] at hK2
          have HS2 := Lib.hid hS2
          have HK2 := Lib.hid hK2
          have hsb2 := hS2.lt
          have hkb2 := hK2.lt
          have hlb2 := hW2.lt
          obtain ⟨h01, h02, h03, h04, h05⟩ := hBs
          obtain ⟨old, ho1, ho2, _⟩ := h03
          have Ho1 := Lib.hid (fun w3 (h : Below w2.heap.size w2 w3) => (h.block (w.heap.size + 1 + 1) (by omega)).trans ho1)
          have HB4 := Lib.hid h04
          clear h01 h02 h04 hW2 hS2 hK2 ho1
          have HC0 := Lib.hid (fun w3 (h3 : Below w2.heap.size w2 w3) => (h3.cell (p := ⟨w.heap.size, 0, none⟩) hsb2).trans (HS2.out.cell 0 (by omega)))
          have HC1 := Lib.hid (fun w3 (h3 : Below w2.heap.size w2 w3) => (h3.cell (p := ⟨w.heap.size, 1, none⟩) hsb2).trans (HS2.out.cell 1 (by omega)))
          have HC2 := Lib.hid (fun w3 (h3 : Below w2.heap.size w2 w3) => (h3.cell (p := ⟨w.heap.size, 2, none⟩) hsb2).trans (HS2.out.cell 2 (by omega)))
          have HC3 := Lib.hid (fun w3 (h3 : Below w2.heap.size w2 w3) => (h3.cell (p := ⟨w.heap.size, 3, none⟩) hsb2).trans (HS2.out.cell 3 (by omega)))
          have HC4 := Lib.hid (fun w3 (h3 : Below w2.heap.size w2 w3) => (h3.cell (p := ⟨w.heap.size, 4, none⟩) hsb2).trans (HS2.out.cell 4 (by omega)))
          have HC5 := Lib.hid (fun w3 (h3 : Below w2.heap.size w2 w3) => (h3.cell (p := ⟨w.heap.size, 5, none⟩) hsb2).trans (HS2.out.cell 5 (by omega)))
          have HC6 := Lib.hid (fun w3 (h3 : Below w2.heap.size w2 w3) => (h3.cell (p := ⟨w.heap.size, 6, none⟩) hsb2).trans (HS2.out.cell 6 (by omega)))
          have HC7 := Lib.hid (fun w3 (h3 : Below w2.heap.size w2 w3) => (h3.cell (p := ⟨w.heap.size, 7, none⟩) hsb2).trans (HS2.out.cell 7 (by omega)))
          simp only [St.list, List.getD_cons_zero, List.getD_cons_succ] at HC0 HC1 HC2 HC3 HC4 HC5 HC6 HC7
          go_wp2_with fail
          refine wp_region_class (Below w2.heap.size w2) (by kernel_rfl) (by kernel_rfl) (Below.refl _ _).drew ?_
          repeat (go_big_quiet_step (first | (intro _; rfl) | (intro hq; rw [HC0.out _ hq]; exact ⟨rfl, rfl⟩) | (intro hq; rw [HC1.out _ hq]; exact ⟨rfl, rfl⟩) | (intro hq; rw [HC2.out _ hq]; exact ⟨rfl, rfl⟩) | (intro hq; rw [HC3.out _ hq]; exact ⟨rfl, rfl⟩) | (intro hq; rw [HC4.out _ hq]; exact ⟨rfl, rfl⟩) | (intro hq; rw [HC5.out _ hq]; exact ⟨rfl, rfl⟩) | (intro hq; rw [HC6.out _ hq]; exact ⟨rfl, rfl⟩) | (intro hq; rw [HC7.out _ hq]; exact ⟨rfl, rfl⟩)))
          refine wpQuiet_nil ?_
          intro w3 hB3
          go_wp2_with fail
          go_loopg [14, 15, 16, 17, 18, 19, 20, 21, 22] 64 (fun n av bv cv dv ev fv gv hv iv wr => ∃ (i : Nat) (s : St), i + n = 64 ∧ iv = .int .i64 i ∧ s = S.rounds L i ∧ av = .int .u32 s.a ∧ bv = .int .u32 s.b ∧ cv = .int .u32 s.c ∧ dv = .int .u32 s.d ∧ ev = .int .u32 s.e ∧ fv = .int .u32 s.f ∧ gv = .int .u32 s.g ∧ hv = .int .u32 s.h ∧ Below w2.heap.size w2 wr)
          case atStart => exact ⟨0, S, by omega, rfl, rfl, rfl, rfl, rfl, rfl, rfl, rfl, rfl, rfl, hB3⟩
          case round =>
            obtain ⟨i, s, hig, rfl, hs, rfl, rfl, rfl, rfl, rfl, rfl, rfl, rfl, hBr⟩ := hrel
            by_cases hlt : i < 64
            · have hltI : (i : Int) < 64 := by omega
              have hsok : s.ok := by rw [hs]; exact St.ok_rounds hok _ _
              have hnext : S.rounds L (i + 1) = s.step (K64.getD i 0) (L.getD i 0) := by rw [hs]; rfl
              obtain ⟨a, b, c, d, e, f, g, z⟩ := s
              obtain ⟨h1, h2, h3, h4, h5, h6, h7, h8⟩ := hsok
              simp only at h1 h2 h3 h4 h5 h6 h7 h8
              simp only
              have cK := (HK2.out.below hBr).cell i hlt
              have cL := (HL2.out.below hBr).cell i hlt
              have bK := k64_small i
              have bL := Hsm.out i
              have Hnext := Lib.hid hnext
              have HsE := Lib.hid hs
              clear hnext hs
              generalize K64.getD i 0 = k at *
              generalize L.getD i 0 = x at *
              have HCK := Lib.hid (fun w3 (hw : Below wr.heap.size wr w3) => (hw.cell (p := ⟨w.heap.size + 1, i, none⟩) (Nat.lt_of_lt_of_le hkb2 hBr.size)).trans cK)
              have HCL := Lib.hid (fun w3 (hw : Below wr.heap.size wr w3) => (hw.cell (p := ⟨w.heap.size + 1 + 1 + 1, i, none⟩) (Nat.lt_of_lt_of_le hlb2 hBr.size)).trans cL)
              have HE := Lib.hid (fun w3 (hw : Below wr.heap.size wr w3) => (three_mixE e w3 h5).mono (fun r w4 hh => (⟨hh.1, hh.2 ▸ hw⟩ : r = .returned (.int .u32 ((sb1 e : Nat) : Int)) ∧ Below wr.heap.size wr w4)))
              clear cK cL
              go_wp2_with fail
              refine wp_region_class (Below wr.heap.size wr) (by kernel_rfl) (by kernel_rfl) (Below.refl _ _).drew ?_
              repeat (go_big_quiet_step (first | (intro _; rfl) | (intro hq; rw [HCK.out _ hq]; exact ⟨rfl, rfl⟩) | (intro hq; rw [HCL.out _ hq]; exact ⟨rfl, rfl⟩) | (intro hq; exact HE.out _ hq)))
              refine wpQuiet_nil ?_
              intro wq hBq
              rw [p_bits a b c d e f g z k x h5 h6 h7]
              obtain ⟨P, hP⟩ : ∃ P, P = St.p ⟨a, b, c, d, e, f, g, z⟩ k x := ⟨_, rfl⟩
              have hPl : P < 4294967296 := hP ▸ (pq_lt ⟨a, b, c, d, e, f, g, z⟩ k x).1
              rw [← hP]
              have HP := Lib.hid hP
              clear hP
              go_wp2_with fail
              refine (three_mixA a _ h1).mono ?_
              rintro r w4 ⟨rfl, rfl⟩
              go_wp2_with fail
              go_roundg (gk - 1)
              case measure => omega
              case rel => exact ⟨i + 1, St.step ⟨a, b, c, d, e, f, g, z⟩ k x, by omega, by go_num, Hnext.out.symm, by rw [q_bits a b c d e f g z h1 h2 h3, cast_add, HP.out]; rfl, rfl, rfl, rfl, by rw [cast_add, HP.out]; rfl, rfl, rfl, rfl, hBr.trans (hBq.mono hBr.size)⟩
            · have hnl : ¬ (i : Int) < 64 := by omega
              obtain rfl : i = 64 := by omega
              obtain ⟨R, hR⟩ : ∃ R, R = (S.block B).list := ⟨_, rfl⟩
              have hR2 : R = (S.plus s).list := by rw [hR, Hblk.out, hs]
              have HsE := Lib.hid hs
              clear hs
              obtain ⟨a, b, c, d, e, f, g, z⟩ := s
              simp only
              have HEq := Lib.hid (show #[Value.int .u32 (((S.a : Int) + (a : Int)) % 4294967296), Value.int .u32 (((S.b : Int) + (b : Int)) % 4294967296), Value.int .u32 (((S.c : Int) + (c : Int)) % 4294967296), Value.int .u32 (((S.d : Int) + (d : Int)) % 4294967296), Value.int .u32 (((S.e : Int) + (e : Int)) % 4294967296), Value.int .u32 (((S.f : Int) + (f : Int)) % 4294967296), Value.int .u32 (((S.g : Int) + (g : Int)) % 4294967296), Value.int .u32 (((S.h : Int) + (z : Int)) % 4294967296)] = ints .u32 R by
                rw [hR2]; simp only [ints, St.list, St.plus, List.map_cons, List.map_nil, cast_add])
              have hRl : R.length = 8 := by rw [hR2]; rfl
              have Hz := Lib.hid (show (Tryz.prog.info? 136).map (·.size) = some (ints .u32 R).size by rw [ints_size, hRl]; kernel_rfl)
              have Ho3 := Lib.hid (show old.size = (ints .u32 R).size by rw [ints_size, hRl, ho2])
              have HR := Lib.hid hR
              have Ho4 := Lib.hid (Ho1.out wr hBr)
              have Hend := Lib.hid (HB4.out.trans (hBr.mono HB4.out.size))
              have c0 := HC0.out wr hBr
              have c1 := HC1.out wr hBr
              have c2 := HC2.out wr hBr
              have c3 := HC3.out wr hBr
              have c4 := HC4.out wr hBr
              have c5 := HC5.out wr hBr
              have c6 := HC6.out wr hBr
              have c7 := HC7.out wr hBr
              clear hR hR2 hRl ho2 hBr
              go_wp2_with (refine wpList_store_rowTo rfl 136 _ _ rfl rfl (w.heap.size + 1 + 1) (ints .u32 R) rfl (congrArg Value.agg HEq.out) 136 _ Ho4.out Hz.out Ho3.out (ints_one _ _) ?_)
              refine bodyPost_ret (v := .agg (ints .u32 R)) (results_cell_row (fr := (0, 0)) rfl _ _ (w.heap.size + 1 + 1) 136 _ _ rfl (setRow_heap _ _ _ _ _ _ Ho4.out) Tryz.underlying136 rfl Hz.out) rfl ⟨by rw [HR.out], below_setRow Hend.out (by omega) _⟩
end Go.Proofs.YtdhaanaenklleaaGreatDoor.S
namespace Go.Proofs.YtdhaanaenklleaaGreatDoor.S
set_option linter.unusedVariables false
open Go.ChangeShapes Go.WideShapes Go.ChangeAt Go.RowKit

/-- The digest's byte n. -/
def dbyte (H : List Nat) (n : Nat) : Nat := H.getD (n / 4) 0 / 2 ^ (24 - 8 * (n % 4)) % 256
def dpre (H : List Nat) (n : Nat) : List Nat := (List.range n).map (dbyte H)
def digL (H : List Nat) : List Nat := dpre H 32
theorem dpre_len (H : List Nat) (n : Nat) : (dpre H n).length = n := by simp [dpre]
theorem dpre_succ (H : List Nat) (n : Nat) : dpre H (n + 1) = dpre H n ++ [dbyte H n] := by simp [dpre, List.range_succ]
theorem digL_eq (H : List Nat) : dpre H 32 = digL H := rfl
theorem dbyte0 (H : List Nat) (i : Nat) : dbyte H (4 * i + 0) = H.getD i 0 / 16777216 % 256 := by
  unfold dbyte; rw [show (4 * i + 0) / 4 = i by omega, show (4 * i + 0) % 4 = 0 by omega]
theorem dbyte1 (H : List Nat) (i : Nat) : dbyte H (4 * i + 1) = H.getD i 0 / 65536 % 256 := by
  unfold dbyte; rw [show (4 * i + 1) / 4 = i by omega, show (4 * i + 1) % 4 = 1 by omega]
theorem dbyte2 (H : List Nat) (i : Nat) : dbyte H (4 * i + 2) = H.getD i 0 / 256 % 256 := by
  unfold dbyte; rw [show (4 * i + 2) / 4 = i by omega, show (4 * i + 2) % 4 = 2 by omega]
theorem dbyte3 (H : List Nat) (i : Nat) : dbyte H (4 * i + 3) = H.getD i 0 % 256 := by
  unfold dbyte; rw [show (4 * i + 3) / 4 = i by omega, show (4 * i + 3) % 4 = 3 by omega]; simp
theorem index41 (l : List Nat) (i : Nat) (hl : l.length = 8) (hi : i < 8) (w : World) : (Instr.index 137 (.agg (ints .u32 l)) (.int .i64 (i : Int))).run Tryz.prog w = .ok (.int .u32 ((l.getD i 0 : Nat) : Int)) w := by
  have hz : (sizeOf 130).run Tryz.prog w = .ok 1 w := by simp [go_sem]
  simp [Instr.index, run_underlying Tryz.underlying137, asIntOf, hz, go_sem]
  rw [if_pos hi, ints_get _ _ _ (by omega)]
  simp

theorem row3 (w : World) (c : Array Value) (A B : Obj) : (((w.alloc (.cells c 137)).alloc A).alloc B).heap[w.heap.size]? = some (.cells c 137 (0, 0)) := by
  rw [heap_alloc_old _ _ (by simp; omega), heap_alloc_old _ _ (by simp), heap_alloc_new]
theorem dig_start (w : World) (c z : Array Value) (hz : z = Array.replicate 32 (.int .u8 0)) :
    Arr (((w.alloc (.cells c 137)).alloc (.cells z 32)).alloc (.cells z 32)) (w.heap.size + 1) 32 32 .u8 [] ∧ Arr (((w.alloc (.cells c 137)).alloc (.cells z 32)).alloc (.cells z 32)) (w.heap.size + 1 + 1) 32 32 .u8 [] ∧ Below w.heap.size w (((w.alloc (.cells c 137)).alloc (.cells z 32)).alloc (.cells z 32)) := by
  obtain ⟨w1, e1⟩ : ∃ w1, w1 = w.alloc (.cells c 137) := ⟨_, rfl⟩
  have b1 : Below w.heap.size w w1 := e1 ▸ (Below.refl _ _).alloc (Nat.le_refl _) _
  have s1 : w1.heap.size = w.heap.size + 1 := by rw [e1]; simp
  rw [← e1]
  refine ⟨?_, ?_, (b1.alloc (by omega) _).alloc (by simp; omega) _⟩
  · rw [← s1]; exact arr_zero (heap_alloc2_old _ _ _) hz
  · rw [← s1]; exact arr_zero (heap_alloc2_new _ _ _) hz

set_option maxRecDepth 100000 in
set_option maxHeartbeats 1000000 in
theorem digest_any (H : List Nat) (w : World) (hl : H.length = 8) (hs : Small 4294967296 H) :
    Calls Tryz.prog 94 #[.agg (ints .u32 H)] w fun e w' => e = .returned (.agg (ints .u8 (digL H))) ∧ Below w.heap.size w w' := by
  have hz41 : (Tryz.prog.info? 137).map (·.size) = some (ints .u32 H).size := by rw [ints_size, hl]; kernel_rfl
  have Hz := Lib.hid hz41
  have Hl := Lib.hid hl
  have Hz24 := Lib.hid (show (Tryz.prog.info? 32).map (·.size) = some (ints .u8 (digL H)).size by rw [ints_size, digL, dpre_len]; kernel_rfl)
  have Hdl := Lib.hid (show (digL H).length = 32 by rw [digL, dpre_len])
  have Hde := Lib.hid (digL_eq H)
  clear hz41
  generalize digL H = D at *
  go_enter Tryz.func94, Tryz.ntmps94
  go_wp2_with (first | (refine wpList_load_row rfl 137 _ rfl w.heap.size rfl 137 (ints .u32 H) (0, 0) _ (row3 w _ _ _) Tryz.underlying137 rfl Hz.out ?_))
  have hst := dig_start w (ints .u32 H) _ rfl
  have Hst := Lib.hid hst
  clear hst
  go_loopg [8] 8 (fun g iv wr => ∃ i : Nat, i + g = 8 ∧ iv = .int .i64 i ∧ Arr wr (w.heap.size + 1) 32 32 .u8 [] ∧ Arr wr (w.heap.size + 1 + 1) 32 32 .u8 (dpre H (4 * i)) ∧ Below w.heap.size w wr)
  case atStart => exact ⟨0, by omega, rfl, Hst.out.1, Hst.out.2.1, Hst.out.2.2⟩
  case round =>
    obtain ⟨i, hig, rfl, hR, hD, hB⟩ := hrel
    by_cases hlt : i < 8
    · have hltI : (i : Int) < 8 := by omega
      have hix := index41 H i Hl.out hlt wr
      have hx := hs i
      have Hb0 := Lib.hid (dbyte0 H i)
      have Hb1 := Lib.hid (dbyte1 H i)
      have Hb2 := Lib.hid (dbyte2 H i)
      have Hb3 := Lib.hid (dbyte3 H i)
      obtain ⟨x, hxe⟩ : ∃ x, H.getD i 0 = x := ⟨_, rfl⟩
      rw [hxe] at hix hx Hb0 Hb1 Hb2 Hb3
      obtain ⟨gko, rfl⟩ : ∃ g, g = gk := ⟨gk, rfl⟩
      have HR := Lib.hid hR
      have HD := Lib.hid hD
      have HB := Lib.hid hB
      clear hR hD hB
      go_wp2_with fail
      go_loopg [12] 4 (fun g jv wr => ∃ j : Nat, j + g = 4 ∧ jv = .int .i64 j ∧ Arr wr (w.heap.size + 1) 32 32 .u8 [] ∧ Arr wr (w.heap.size + 1 + 1) 32 32 .u8 (dpre H (4 * i + j)) ∧ Below w.heap.size w wr)
      case atStart => exact ⟨0, by omega, rfl, HR.out, HD.out, HB.out⟩
      case round =>
        obtain ⟨j, hjg, rfl, hR, hD, hB⟩ := hrel
        have hj : j = 0 ∨ j = 1 ∨ j = 2 ∨ j = 3 ∨ j = 4 := by omega
        rcases hj with rfl | rfl | rfl | rfl | rfl
        · have c1 := hD.cell (4 * i + 0) (by omega)
          have f1 := hD.free (4 * i + 0)
          have Hn := Lib.hid (fun v => (by have h := hD.snoc (by rw [dpre_len]; omega) v; rw [dpre_len] at h; exact h : Arr (wr.setCell ⟨w.heap.size + 1 + 1, 4 * i + 0, none⟩ (.int .u8 ((v : Nat) : Int))) (w.heap.size + 1 + 1) 32 32 .u8 (dpre H (4 * i + 0) ++ [v])))
          have HR2 := Lib.hid (fun v => hR.other ⟨w.heap.size + 1 + 1, 4 * i + 0, none⟩ v (by simp))
          clear hD hR
          simp only [Nat.add_zero] at c1 f1 Hn HR2
          go_wp2_with fail
          go_roundg (gk - 1)
          case measure => omega
          case rel => exact ⟨0 + 1, by omega, by go_num, HR2.out _, by have e : (x : Int) / 16777216 = ((dbyte H (4 * i + 0) : Nat) : Int) := (by rw [Hb0.out]; omega); rw [dpre_succ, e]; exact Hn.out _, hB.setCell (by show w.heap.size ≤ w.heap.size + 1 + 1; omega) _⟩
        · have c1 := hD.cell (4 * i + 1) (by omega)
          have f1 := hD.free (4 * i + 1)
          have Hn := Lib.hid (fun v => (by have h := hD.snoc (by rw [dpre_len]; omega) v; rw [dpre_len] at h; exact h : Arr (wr.setCell ⟨w.heap.size + 1 + 1, 4 * i + 1, none⟩ (.int .u8 ((v : Nat) : Int))) (w.heap.size + 1 + 1) 32 32 .u8 (dpre H (4 * i + 1) ++ [v])))
          have HR2 := Lib.hid (fun v => hR.other ⟨w.heap.size + 1 + 1, 4 * i + 1, none⟩ v (by simp))
          clear hD hR
          go_wp2_with fail
          go_roundg (gk - 1)
          case measure => omega
          case rel => exact ⟨1 + 1, by omega, by go_num, HR2.out _, by have e : (x : Int) / 65536 % 256 = ((dbyte H (4 * i + 1) : Nat) : Int) := (by rw [Hb1.out]; omega); rw [dpre_succ, e]; exact Hn.out _, hB.setCell (by show w.heap.size ≤ w.heap.size + 1 + 1; omega) _⟩
        · have c1 := hD.cell (4 * i + 2) (by omega)
          have f1 := hD.free (4 * i + 2)
          have Hn := Lib.hid (fun v => (by have h := hD.snoc (by rw [dpre_len]; omega) v; rw [dpre_len] at h; exact h : Arr (wr.setCell ⟨w.heap.size + 1 + 1, 4 * i + 2, none⟩ (.int .u8 ((v : Nat) : Int))) (w.heap.size + 1 + 1) 32 32 .u8 (dpre H (4 * i + 2) ++ [v])))
          have HR2 := Lib.hid (fun v => hR.other ⟨w.heap.size + 1 + 1, 4 * i + 2, none⟩ v (by simp))
          clear hD hR
          go_wp2_with fail
          go_roundg (gk - 1)
          case measure => omega
          case rel => exact ⟨2 + 1, by omega, by go_num, HR2.out _, by have e : (x : Int) / 256 % 256 = ((dbyte H (4 * i + 2) : Nat) : Int) := (by rw [Hb2.out]; omega); rw [dpre_succ, e]; exact Hn.out _, hB.setCell (by show w.heap.size ≤ w.heap.size + 1 + 1; omega) _⟩
        · have c1 := hD.cell (4 * i + 3) (by omega)
          have f1 := hD.free (4 * i + 3)
          have Hn := Lib.hid (fun v => (by have h := hD.snoc (by rw [dpre_len]; omega) v; rw [dpre_len] at h; exact h : Arr (wr.setCell ⟨w.heap.size + 1 + 1, 4 * i + 3, none⟩ (.int .u8 ((v : Nat) : Int))) (w.heap.size + 1 + 1) 32 32 .u8 (dpre H (4 * i + 3) ++ [v])))
          have HR2 := Lib.hid (fun v => hR.other ⟨w.heap.size + 1 + 1, 4 * i + 3, none⟩ v (by simp))
          clear hD hR
          go_wp2_with fail
          go_roundg (gk - 1)
          case measure => omega
          case rel => exact ⟨3 + 1, by omega, by go_num, HR2.out _, by have e : (x : Int) % 256 = ((dbyte H (4 * i + 3) : Nat) : Int) := (by rw [Hb3.out]; omega); rw [dpre_succ, e]; exact Hn.out _, hB.setCell (by show w.heap.size ≤ w.heap.size + 1 + 1; omega) _⟩
        · go_wp2_with fail
          go_roundg (gko - 1)
          case measure => omega
          case rel => exact ⟨i + 1, by omega, by go_num, hR, hD, hB⟩
    · have hnl : ¬ (i : Int) < 8 := by omega
      obtain rfl : i = 8 := by omega
      have hwh := hD.whole (by rw [dpre_len])
      obtain ⟨old, ho1, ho2, _⟩ := hR
      have hwh2 : wr.heap[w.heap.size + 1 + 1]? = some (.cells (ints .u8 D) 32 (0, 0)) := by rw [hwh]; rw [show 4 * 8 = 32 by rfl, Hde.out]
      have Hwh := Lib.hid hwh2
      clear hwh2
      have Ho1 := Lib.hid ho1
      have Ho3 := Lib.hid (show old.size = (ints .u8 D).size by rw [ints_size, Hdl.out, ho2])
      have HB := Lib.hid hB
      clear hB hwh ho1 ho2 hD
      go_wp2_with (first
        | (refine wpList_load_row rfl 32 _ rfl (w.heap.size + 1 + 1) rfl 32 (ints .u8 D) (0, 0) _ Hwh.out Tryz.underlying32 rfl Hz24.out ?_)
        | (refine wpList_store_rowTo rfl 32 _ _ rfl rfl (w.heap.size + 1) (ints .u8 D) rfl rfl 32 _ Ho1.out Hz24.out Ho3.out (ints_one _ _) ?_))
      refine bodyPost_ret (v := .agg (ints .u8 D)) (results_cell_row (fr := (0, 0)) rfl _ _ (w.heap.size + 1) 32 _ _ rfl (setRow_heap _ _ _ _ _ _ Ho1.out) Tryz.underlying32 rfl Hz24.out) rfl ⟨rfl, below_setRow HB.out (by omega) _⟩
end Go.Proofs.YtdhaanaenklleaaGreatDoor.S
namespace Go.Proofs.YtdhaanaenklleaaGreatDoor.S
set_option linter.unusedVariables false
open Go.ChangeShapes Go.WideShapes Go.ChangeAt Go.RowKit

def hd (v : Nat) : Nat := if v < 10 then 48 + v else 87 + v
theorem slice42all (w : World) (b : Nat) : (Instr.sliceAt 138 (.pointer (some ⟨b, 0, none⟩)) none none none).run Tryz.prog w = .ok (.slice (some ⟨b, 0, none⟩) 64 64) w := by
  have he : Tryz.prog.arrayLen 138 = 64 := by kernel_rfl
  have hE : Tryz.prog.elem 138 = 5 := by kernel_rfl
  have hz : (sizeOf 5).run Tryz.prog w = .ok 1 w := by simp [go_sem]
  rw [run_sliceAt_array_all w 138 ⟨b, 0, none⟩ (by rw [he, hE]; exact Tryz.underlying138), hE, hz, he]
  simp [slicedAt, Addr.add]
end Go.Proofs.YtdhaanaenklleaaGreatDoor.S
namespace Go.Proofs.YtdhaanaenklleaaGreatDoor.S
set_option linter.unusedVariables false
open Go.ChangeShapes Go.WideShapes Go.ChangeAt Go.RowKit

/-- A text's bytes. -/
def bytesL (s : ByteArray) : List Nat := s.data.toList.map (·.toNat)
theorem bytesL_len (s : ByteArray) : (bytesL s).length = s.size := by rw [bytesL, List.length_map, ← Lib.size_eq]
theorem bytesL_small (s : ByteArray) : Small 256 (bytesL s) := fun j => by
  simp only [bytesL, List.getD_eq_getElem?_getD, List.getElem?_map]
  cases h : s.data.toList[j]? with
  | none => simp
  | some b => simpa using b.toNat_lt
/-- The first n of a list over another's first. -/
def over (a l : List Nat) : List Nat := (List.range 64).map fun j => if j < a.length then a.getD j 0 else l.getD j 0
theorem over_len (a l : List Nat) : (over a l).length = 64 := by simp [over]
theorem over_get (a l : List Nat) (j : Nat) (h : j < 64) : (over a l).getD j 0 = if j < a.length then a.getD j 0 else l.getD j 0 := getD_range _ 64 j h
theorem byteCells_ints (l : List UInt8) : Lib.byteCells l = (ints .u8 (l.map (·.toNat))).toList := by
  simp [Lib.byteCells, ints]

/-- 'copy(dst, s)' into an array of 64: as many bytes as there is room for. -/
theorem copy_arr (w : World) (b : Nat) (l : List Nat) (s : ByteArray) (ty : TypeId) (h : Arr w b 138 64 .u8 l) :
    (Builtin.copy_ #[56, 9] ty #[.slice (some ⟨b, 0, none⟩) 64 64, .string s]).run Tryz.prog w = .ok (goInt ((min s.size 64 : Nat) : Int)) (w.setRow b (ints .u8 (over ((bytesL s).take 64) l))) := by
  obtain ⟨cur, h1, h2, h3⟩ := h
  obtain ⟨t, ht⟩ : ∃ t, t = s.data.toList.take 64 := ⟨_, rfl⟩
  have hl : (Lib.byteCells t).length = min s.size 64 := by
    rw [Lib.byteCells_length, ht, List.length_take, ← Lib.size_eq, Nat.min_comm]
  have hst := run_storeCells_at Tryz.prog b 0 138 (Lib.byteCells t) 0 cur w h1 (by rw [hl, h2]; omega) (Lib.byteCells_one _)
  have htk : List.take (min s.size 64) (List.map (fun b : UInt8 => Value.int IntKind.u8 (b.toNat : Int)) s.data.toList) = Lib.byteCells t := by
    rw [ht, Lib.byteCells, List.map_take]
    by_cases hc : s.size ≤ 64
    · rw [Nat.min_eq_left hc, List.take_of_length_le (by rw [List.length_map, ← Lib.size_eq]; exact Nat.le_refl _), List.take_of_length_le (by rw [List.length_map, ← Lib.size_eq]; exact hc)]
    · rw [Nat.min_eq_right (by omega)]
  have hrow : (cur.toList.take 0 ++ Lib.byteCells t ++ cur.toList.drop (0 + (Lib.byteCells t).length)).toArray = ints .u8 (over ((bytesL s).take 64) l) := by
    have ht2 : t.map (·.toNat) = (bytesL s).take 64 := by rw [ht, bytesL, List.map_take]
    obtain ⟨q, hq⟩ : ∃ q, q = (bytesL s).take 64 := ⟨_, rfl⟩
    have hql : q.length ≤ 64 := by rw [hq, List.length_take]; omega
    obtain ⟨X, hXe⟩ : ∃ X, X = Lib.byteCells t := ⟨_, rfl⟩
    rw [← hXe, ← hq]
    rw [byteCells_ints, ht2, ← hq] at hXe
    have hX : X.length = q.length := by rw [hXe, Array.length_toList, ints_size]
    have hXg : ∀ j, j < q.length → X[j]? = some (.int .u8 ((q.getD j 0 : Nat) : Int)) := fun j hj => by rw [hXe, Array.getElem?_toList]; exact ints_get _ _ j hj
    clear hXe
    have hX2 : (⟨X⟩ : Array Value).size = q.length := hX
    have hcl : cur.toList.length = 64 := by rw [Array.length_toList]; exact h2
    apply Array.ext_getElem?
    intro j
    simp only [List.take_zero, List.nil_append, List.getElem?_toArray, Nat.zero_add]
    by_cases hj : j < 64
    · rw [ints_get _ _ j (by rw [over_len]; exact hj), over_get _ _ j hj]
      by_cases hjq : j < q.length
      · rw [if_pos hjq, List.getElem?_append_left (by rw [hX]; exact hjq), hXg j hjq]
      · rw [if_neg hjq, List.getElem?_append_right (by rw [hX]; omega), hX, List.getElem?_drop, show q.length + (j - q.length) = j by omega, Array.getElem?_toList, h3 j hj]
    · rw [List.getElem?_eq_none (by rw [List.length_append, List.length_drop]; omega), Array.getElem?_eq_none (by rw [ints_size, over_len]; omega)]
  simp only [Nat.add_zero] at hst
  rw [hrow] at hst
  have hi : (Tryz.prog.info? 5).map (·.size) = some 1 := by kernel_rfl
  cases hq : Tryz.prog.info? 5 with
  | none => simp [hq] at hi
  | some i =>
    simp [Builtin.copy_, run_underlying Tryz.underlying56, Builtin.lenOf, Builtin.firstCells, sizeOf, typeInfo, hq]
    rw [htk, hst]
    simp only [Result.andThen_ok]
    first | done | rfl | (congr 1; omega)
theorem setCells_zero (b : Nat) : ∀ (n o : Nat) (w : World) (l : List Nat), Arr w b 138 64 .u8 l → o + n ≤ 64 →
    (∃ l', Arr (w.setCells b o (List.replicate n (.int .u8 0))) b 138 64 .u8 l' ∧ ∀ j, j < 64 → l'.getD j 0 = if o ≤ j ∧ j < o + n then 0 else l.getD j 0) ∧
    (w.setCells b o (List.replicate n (.int .u8 0))).heap.size = w.heap.size ∧ (∀ base, base ≤ b → Below base w (w.setCells b o (List.replicate n (.int .u8 0)))) ∧
    (∀ j, j ≠ b → (w.setCells b o (List.replicate n (.int .u8 0))).heap[j]? = w.heap[j]?)
  | 0, o, w, l, h, _ => ⟨⟨l, h, fun j hj => by rw [if_neg (by omega)]⟩, rfl, fun _ _ => Below.refl _ _, fun _ _ => rfl⟩
  | n + 1, o, w, l, h, ho => by
    have h1 := h.set (i := o) (by omega) 0 ((List.range 64).map fun j => if o = j then 0 else l.getD j 0) (fun j hj => getD_range _ 64 j hj)
    obtain ⟨⟨l', ha, hl⟩, hsz, hB, hk⟩ := setCells_zero b n (o + 1) _ _ h1 (by omega)
    have e : w.setCells b o (List.replicate (n + 1) (.int .u8 0)) = (w.setCell ⟨b, o, none⟩ (.int .u8 0)).setCells b (o + 1) (List.replicate n (.int .u8 0)) := by rw [List.replicate_succ, World.setCells]
    rw [e]
    refine ⟨⟨l', ha, fun j hj => ?_⟩, hsz.trans (by simp [World.setCell]), fun base hb => ((Below.refl _ _).setCell (by exact hb) _).trans (hB base hb), fun j hj => (hk j hj).trans (heap_setCell_other w _ j _ hj)⟩
    rw [hl j hj, getD_range _ 64 j hj]
    by_cases e1 : o + 1 ≤ j ∧ j < o + 1 + n
    · rw [if_pos e1, if_pos (by omega)]
    · rw [if_neg e1]
      by_cases e2 : o = j
      · rw [if_pos e2, if_pos (by omega)]
      · rw [if_neg e2, if_neg (by omega)]
/-- 'clear(b[:])'. -/
theorem clear_arr (w : World) (b : Nat) (l : List Nat) (ty : TypeId) (h : Arr w b 138 64 .u8 l) :
    ∃ w', (Builtin.clear_ #[56] ty #[.slice (some ⟨b, 0, none⟩) 64 64]).run Tryz.prog w = .ok (.tuple #[]) w' ∧ Arr w' b 138 64 .u8 [] ∧ w'.heap.size = w.heap.size ∧ (∀ base, base ≤ b → Below base w w') ∧ (∀ j, j ≠ b → w'.heap[j]? = w.heap[j]?) := by
  have hz : ∀ w, (zeroValue 5).run Tryz.prog w = .ok (.int .u8 0) w := by intro w; simp [go_sem]
  have h1 := Lib.run_clear_slice w 56 5 ty (.int .u8 0) Tryz.underlying56 hz rfl rfl b 0 64 64 (by omega) (fun j hj => by rw [Nat.zero_add, h.cell j hj]; rfl) (fun j hj => by rw [Nat.zero_add]; exact h.free j)
  obtain ⟨⟨l', ha, hl⟩, hsz, hB, hk⟩ := setCells_zero b 64 0 w l h (by omega)
  exact ⟨_, h1, ha.congr fun j hj => by rw [hl j hj, if_pos (by omega)]; simp, hsz, hB, hk⟩
end Go.Proofs.YtdhaanaenklleaaGreatDoor.S
