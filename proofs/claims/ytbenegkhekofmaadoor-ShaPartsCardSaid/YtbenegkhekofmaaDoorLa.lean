/- Walks: the statement ShaIs. -/
import Derived.Test.YtbenegkhekofmaaDoorJp
import Derived.Lib.ConvBytes
import Derived.Test.YtbenegkhekofmaaDoorEq
namespace Go.Proofs.YtbenegkhekofmaaDoor
set_option linter.unusedVariables false
open Go.ChangeShapes Go.WideShapes Go.ChangeAt Go.RowKit

theorem ky24 : Tryd.prog.keyTypeAt 2 24 = true := by kernel_rfl
theorem ky23 : Tryd.prog.keyTypeAt 2 23 = true := by kernel_rfl
theorem co5 : Tryd.prog.cellsOf 5 = 1 := by kernel_rfl
theorem co24 : Tryd.prog.cellsOf 24 = 32 := by kernel_rfl
theorem co23 : Tryd.prog.cellsOf 23 = 32 := by kernel_rfl
theorem eq24 (a b : List Nat) (ha : a.length = 32) (hb : b.length = 32) (hsa : Small 256 a) (hsb : Small 256 b) (w : World) : (Op.equalIn 10000 24 (.agg (ints .u8 a)) (.agg (ints .u8 b))).run Tryd.prog w = .ok (decide (a = b)) w :=
  eq_rows 24 5 32 Tryd.underlying24 Tryd.underlying5 co5 co24 ky24 a b ha hb hsa hsb w
theorem eq23 (a b : List Nat) (ha : a.length = 32) (hb : b.length = 32) (hsa : Small 256 a) (hsb : Small 256 b) (w : World) : (Op.equalIn 10000 23 (.agg (ints .u8 a)) (.agg (ints .u8 b))).run Tryd.prog w = .ok (decide (a = b)) w :=
  eq_rows 23 5 32 Tryd.underlying23 Tryd.underlying5 co5 co23 ky23 a b ha hb hsa hsb w
theorem same24 (l : List Nat) (w : World) : (Op.equalIn 10000 24 (.agg (ints .u8 (shaL l))) (.agg (ints .u8 (shaL l)))).run Tryd.prog w = .ok true w := by
  rw [eq24 _ _ (shaL_len l) (shaL_len l) (shaL_small l) (shaL_small l)]; simp

/-- '[]byte(s)'. -/
theorem conv_bytes (s : ByteArray) (w : World) (hs : s.size ≤ 9223372036854775807) : ∃ v w', (convert 9 27 (.string s)).run Tryd.prog w = .ok v w' ∧ BytsN w' v (bytesL s) ∧ Below w.heap.size w w' := by
  refine ⟨_, _, Lib.run_convert_string_bytes w 9 27 5 s Tryd.underlying9 Tryd.underlying27 Tryd.underlying5, ?_, ?_⟩
  · have hl := bytesL_len s
    refine .inr (.inr ⟨w.heap.size, 0, grownCap w s.size 0 5, by rw [hl], by rw [hl]; exact grownCap_ge _ _ _ _, grownCap_le_maxLen _ _ _ _ (by unfold maxLen; omega), by rw [Lib.bytesWorld_size]; omega, fun i hi => ?_⟩)
    rw [hl] at hi
    rw [Nat.zero_add, Lib.bytesWorld_cell _ _ _ _ hi]
    have hi2 : i < s.data.toList.length := by rw [← Lib.size_eq]; exact hi
    simp only [bytesL, List.getD_eq_getElem?_getD, List.getElem?_map, List.getElem?_eq_getElem hi2, Option.map_some, Option.getD_some]
  · exact ⟨by simp [Lib.bytesWorld, World.freeze, World.alloc, World.drew, -World.alloc_eq, -World.drew_eq], by simp [Lib.bytesWorld, World.freeze, World.alloc, World.drew, -World.alloc_eq, -World.drew_eq], by simp [Lib.bytesWorld, World.freeze, World.alloc, World.drew, -World.alloc_eq, -World.drew_eq], by rw [Lib.bytesWorld_size]; omega, fun k hk => Lib.bytesWorld_at_old w 5 s k hk⟩

set_option maxHeartbeats 1000000 in
theorem is_walk (s : ByteArray) (w : World) (hs : s.size ≤ 140737488351232) (hK : KeysAt w) : Calls Tryd.prog 3 #[.string s] w (LawEnd w) := by
  have HK := Lib.hid hK
  clear hK
  by_cases h : s.size ≤ 8192
  · have hI : ¬ (8192 : Int) < (s.size : Int) := by omega
    have hd : decide ((8192 : Int) < (s.size : Int)) = false := by simpa using hI
    go_enter Tryd.func3, Tryd.ntmps3
    go_wp2_with fail
    refine (alive_any _ HK.out).mono ?_
    rintro e w1 ⟨rfl, hB1⟩
    have HO := Lib.hid (of_any s w1 (HK.out.below HK.out.1 hB1) (by omega))
    go_wp2_with fail
    refine HO.out.mono ?_
    rintro e w2 ⟨rfl, hB2⟩
    have hb2 := hB1.trans (hB2.mono hB1.size)
    clear hB1 hB2 HO
    obtain ⟨v, w3, hcv, hv, hB3⟩ := conv_bytes s w2 (by omega)
    have hb3 := hb2.trans (hB3.mono hb2.size)
    have HO := Lib.hid (dof_any v (bytesL s) w3 hv (bytesL_small s) (by rw [bytesL_len]; omega))
    clear hb2 hB3 hv
    go_wp2_with fail
    refine HO.out.mono ?_
    rintro e w4 ⟨rfl, hB4⟩
    have hb4 := hb3.trans (hB4.mono hb3.size)
    clear hb3 hB4 HO
    have hq := fun w => same24 (bytesL s) w
    generalize shaL (bytesL s) = D at *
    go_wp2_with fail
    go_ret
    exact ⟨rfl, hb4⟩
  · have hI : (8192 : Int) < (s.size : Int) := by omega
    have hd : decide ((8192 : Int) < (s.size : Int)) = true := by simpa using hI
    go_enter Tryd.func3, Tryd.ntmps3
    go_wp2_with fail
    refine (alive_any _ HK.out).mono ?_
    rintro e w1 ⟨rfl, hB1⟩
    go_wp2_with fail
    go_ret
    exact ⟨rfl, hB1⟩
end Go.Proofs.YtbenegkhekofmaaDoor
