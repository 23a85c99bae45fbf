/- Walks: the statement ShaOne. -/
import Derived.Test.YtbenegkhekofmaaDoorLb
namespace Go.Proofs.YtbenegkhekofmaaDoor
set_option linter.unusedVariables false
open Go.ChangeShapes Go.WideShapes Go.ChangeAt Go.RowKit

theorem strs_two (w : World) (s t : ByteArray) : Strs (w.alloc (.cells #[.string s, .string t] 9)) (.slice (some ⟨w.heap.size, 0, none⟩) 2 2) [s, t] := by
  refine .inr ⟨w.heap.size, 0, 2, rfl, by simp, by unfold maxLen; decide, by simp, fun i hi => ?_⟩
  rw [World.cell?_alloc_at _ _ _ _ rfl]
  rcases (by simp at hi; omega : i = 0 ∨ i = 1) with rfl | rfl <;> rfl
theorem strs_three (w : World) (s t u : ByteArray) : Strs (w.alloc (.cells #[.string s, .string t, .string u] 9)) (.slice (some ⟨w.heap.size, 0, none⟩) 3 3) [s, t, u] := by
  refine .inr ⟨w.heap.size, 0, 3, rfl, by simp, by unfold maxLen; decide, by simp, fun i hi => ?_⟩
  rw [World.cell?_alloc_at _ _ _ _ rfl]
  rcases (by simp at hi; omega : i = 0 ∨ i = 1 ∨ i = 2) with rfl | rfl | rfl <;> rfl

set_option maxHeartbeats 1000000 in
theorem one_great (p a b : ByteArray) (w : World) (hp : p.size ≤ 140737488351232) (ha : a.size ≤ 140737488351232) (hb : b.size ≤ 140737488351232) (hK : KeysAt w) (h : 4096 < p.size + a.size + b.size) : Calls Tryd.prog 7 #[.string p, .string a, .string b] w (LawEnd w) := by
  have HA := Lib.hid (alive_any w hK)
  clear hK
  have hI : (4096 : Int) < (p.size : Int) + a.size + b.size := by omega
  go_enter Tryd.func7, Tryd.ntmps7
  go_wp2_with fail
  refine HA.out.mono ?_
  rintro e w1 ⟨rfl, hB1⟩
  go_wp2_with fail
  go_ret
  exact ⟨rfl, hB1⟩

set_option maxRecDepth 100000 in
set_option maxHeartbeats 1000000 in
theorem one_small (p a b : ByteArray) (w : World) (hK : KeysAt w) (h : p.size + a.size + b.size ≤ 4096) : Calls Tryd.prog 7 #[.string p, .string a, .string b] w (LawEnd w) := by
  have HA := Lib.hid (alive_any w hK)
  have HK := Lib.hid hK
  clear hK
  have hI : ¬ (4096 : Int) < (p.size : Int) + a.size + b.size := by omega
  have htot : total [p, a, b] ≤ 4096 := by simp [total]; omega
  have hjz := joinB_size [p, a, b]
  simp only [List.length_cons, List.length_nil] at hjz
  have hJ := fun w1 => refJoin_any _ [p, a, b] _ (strs_three w1 p a b) (by omega) (by simp)
  have hS := fun w1 (hB : Below w.heap.size w w1) => sum_any p _ [a, b] _ (HK.out.below HK.out.1 (hB.alloc hB.size (.cells #[.string a, .string b] 9))) (strs_two w1 a b) (by omega) (by simp)
  have hO := fun w1 (hB : Below w.heap.size w w1) => of_any (joinB [p, a, b]) w1 (HK.out.below HK.out.1 hB) (by omega)
  have hO2 := fun w1 (hB : Below w.heap.size w w1) => of_any (a ++ b) w1 (HK.out.below HK.out.1 hB) (by rw [ByteArray.size_append]; omega)
  have hq1 := fun w => same24 (bytesL (joinB [p, a, b])) w
  have hq2 := fun w => same24 (bytesL (a ++ b)) w
  have hcb := fun w1 => conv_bytes (a ++ b) w1 (by rw [ByteArray.size_append]; omega)
  have hab : (a ++ b).size ≤ 4096 := by rw [ByteArray.size_append]; omega
  have hD := fun v w1 (hv : BytsN w1 v (bytesL (a ++ b))) => dof_any v (bytesL (a ++ b)) w1 hv (bytesL_small _) (by rw [bytesL_len]; omega)
  have hx := fun w1 => hex_any (shaL (bytesL (joinB [p, a, b]))) w1 (shaL_len _) (shaL_small _)
  have hxz := hexB_size (shaL (bytesL (joinB [p, a, b])))
  have HJ := Lib.hid hJ
  have HS := Lib.hid hS
  have HO := Lib.hid hO
  have HO2 := Lib.hid hO2
  have HCB := Lib.hid hcb
  have HD := Lib.hid hD
  have HX := Lib.hid hx
  have Hxz := Lib.hid hxz
  have Hq1 := Lib.hid hq1
  have Hq2 := Lib.hid hq2
  clear hJ hS hO hO2 hq1 hq2 hcb hD hx hxz htot hjz
  generalize hexB (shaL (bytesL (joinB [p, a, b]))) = x at *
  generalize bytesL (joinB [p, a, b]) = J at *
  generalize joinB [p, a, b] = j at *
  generalize shaL J = D1 at *
  go_enter Tryd.func7, Tryd.ntmps7
  go_wp2_with fail
  refine HA.out.mono ?_
  rintro e w1 ⟨rfl, hB1⟩
  go_wp2_with fail
  refine (HJ.out w1).mono ?_
  rintro e w2 ⟨rfl, hB2⟩
  have hb2 : Below w.heap.size w w2 := (hB1.alloc hB1.size _).trans (hB2.mono (by have := hB1.size; simp; omega))
  clear hB1 hB2
  go_wp2_with fail
  refine (HS.out w2 hb2).mono ?_
  rintro e w3 ⟨rfl, hB3⟩
  have hb3 : Below w.heap.size w w3 := (hb2.alloc hb2.size _).trans (hB3.mono (by have := hb2.size; simp; omega))
  clear hb2 hB3
  go_wp2_with fail
  refine (HO.out w3 hb3).mono ?_
  rintro e w4 ⟨rfl, hB4⟩
  have hb4 := hb3.trans (hB4.mono hb3.size)
  clear hb3 hB4
  have hq1 := Hq1.out
  go_wp2_with fail
  clear hq1
  have Hab := Lib.hid hab
  clear hab
  refine (HO2.out w4 hb4).mono ?_
  rintro e w5 ⟨rfl, hB5⟩
  have hb5 := hb4.trans (hB5.mono hb4.size)
  clear hb4 hB5
  obtain ⟨v, w6, hcv, hv, hB6⟩ := HCB.out w5
  have hb6 := hb5.trans (hB6.mono hb5.size)
  have hcab : ByteArray.size a + b.size ≤ 4096 := by omega
  clear hb5 hB6
  go_wp2_with fail
  refine (HD.out v w6 hv).mono ?_
  rintro e w7 ⟨rfl, hB7⟩
  have hb7 := hb6.trans (hB7.mono hb6.size)
  clear hb6 hB7 hv hcv
  have hq2 := Hq2.out
  go_wp2_with fail
  clear hq2
  refine (HO.out w7 hb7).mono ?_
  rintro e w8 ⟨rfl, hB8⟩
  have hb8 := hb7.trans (hB8.mono hb7.size)
  clear hb7 hB8
  go_wp2_with fail
  refine (HX.out w8).mono ?_
  rintro e w9 ⟨rfl, hB9⟩
  have hb9 := hb8.trans (hB9.mono hb8.size)
  clear hb8 hB9
  have hxz := Hxz.out
  go_wp2_with fail
  go_ret
  exact ⟨rfl, hb9⟩

theorem one_walk (p a b : ByteArray) (w : World) (hp : p.size ≤ 140737488351232) (ha : a.size ≤ 140737488351232) (hb : b.size ≤ 140737488351232) (hK : KeysAt w) : Calls Tryd.prog 7 #[.string p, .string a, .string b] w (LawEnd w) := by
  by_cases h : 4096 < p.size + a.size + b.size
  · exact one_great p a b w hp ha hb hK h
  · exact one_small p a b w hK (by omega)
end Go.Proofs.YtbenegkhekofmaaDoor
