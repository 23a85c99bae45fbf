/- Walks: the law PathGoes. -/
import Derived.Test.YthgbclgdaaaefaaDoorWl
namespace Go.Proofs.YthgbclgdaaaefaaDoor
set_option linter.unusedVariables false
open Go.ChangeShapes Go.WideShapes Go.ChangeAt Go.RowKit

theorem two_new (w : World) (a b : ByteArray) : Strs (w.alloc (.cells #[.string a, .string b] 9)) (.slice (some ⟨w.heap.size, 0, none⟩) 2 2) [a, b] :=
  Strs.ofRow (ss := [a, b]) (row_of_alloc [a, b] w (by unfold maxLen; simp))
theorem join2_any (a b : ByteArray) (w : World) (h : a.size + b.size ≤ 1073741800) : Calls Tryd.prog 21 #[.slice (some ⟨w.heap.size, 0, none⟩) 2 2] (w.alloc (.cells #[.string a, .string b] 9)) fun e w' => e = .returned (.string (jn a b)) ∧ Below w.heap.size w w' := by
  refine (pjoin_any _ [a, b] _ (two_new w a b) (by simp only [cnt]; omega)).mono ?_
  rintro e w' ⟨rfl, hB⟩
  exact ⟨rfl, ((Below.refl _ w).alloc (Nat.le_refl _) _).trans (hB.mono (by simp))⟩

set_option maxHeartbeats 1000000 in
theorem goes_000 (d y p q : ByteArray) (m : Int) (w : World) (hd : d.size ≤ 512) (hy : y.size ≤ 512) (hm : w.cell? ⟨0, 0, none⟩ = some (.int .i64 m)) (d1 : (!d.toList.isEmpty) = true) (d2 : (d.toList == ([] : List UInt8)) = false)
    (HD : (∀ w1, Below w.heap.size w w1 → Calls Tryd.prog 11 #[.string d] w1 fun e w' => e = .returned (.bool true) ∧ Below w1.heap.size w1 w')) (HF : (∀ w1, Below w.heap.size w w1 → Calls Tryd.prog 25 #[.string d, .string y] w1 fun e w' => e = .returned (.tuple #[.string p, .bool false]) ∧ Below w1.heap.size w1 w')) (HR : (∀ w1, Below w.heap.size w w1 → Calls Tryd.prog 26 #[.string d, .string y] w1 fun e w' => e = .returned (.tuple #[.string q, .bool false]) ∧ Below w1.heap.size w1 w')) (HW : (∀ w1, Below w.heap.size w w1 → Calls Tryd.prog 11 #[.string y] w1 fun e w' => e = .returned (.bool false) ∧ Below w1.heap.size w1 w')) :
    Calls Tryd.prog 7 #[.string d, .string y] w (LawEnd w) := by
  have hdI : (d.size : Int) ≤ 512 := by omega
  have hyI : (y.size : Int) ≤ 512 := by omega
  have H9 := Lib.hid (alive_any m w hm)
  have HD' := Lib.hid HD
  have HF' := Lib.hid HF
  have HR' := Lib.hid HR
  have HW' := Lib.hid HW
  clear HD HF HR HW
  go_enter Tryd.func7, Tryd.ntmps7
  go_wp2_with fail
  refine H9.out.mono ?_
  rintro e w1 ⟨rfl, hB⟩
  go_wp2_with fail
  refine (HD'.out _ hB).mono ?_
  rintro e w2 ⟨rfl, hB2⟩
  replace hB := hB.trans (hB2.mono hB.size)
  clear hB2
  go_wp2_with fail
  refine (HF'.out _ hB).mono ?_
  rintro e w3 ⟨rfl, hB2⟩
  replace hB := hB.trans (hB2.mono hB.size)
  clear hB2
  go_wp2_with fail
  refine (HR'.out _ hB).mono ?_
  rintro e w4 ⟨rfl, hB2⟩
  replace hB := hB.trans (hB2.mono hB.size)
  clear hB2
  go_wp2_with fail
  refine (HW'.out _ hB).mono ?_
  rintro e w5 ⟨rfl, hB2⟩
  replace hB := hB.trans (hB2.mono hB.size)
  clear hB2
  go_wp2_with fail
  go_ret
  exact ⟨rfl, hB⟩
set_option maxHeartbeats 1000000 in
theorem goes_001 (d y p q j : ByteArray) (m : Int) (w : World) (hd : d.size ≤ 512) (hy : y.size ≤ 512) (hm : w.cell? ⟨0, 0, none⟩ = some (.int .i64 m)) (d1 : (!d.toList.isEmpty) = true) (d2 : (d.toList == ([] : List UInt8)) = false)
    (HJ : ∀ w1, Calls Tryd.prog 21 #[.slice (some ⟨w1.heap.size, 0, none⟩) 2 2] (w1.alloc (.cells #[.string d, .string y] 9)) fun e w' => e = .returned (.string j) ∧ Below w1.heap.size w1 w') (HD : (∀ w1, Below w.heap.size w w1 → Calls Tryd.prog 11 #[.string d] w1 fun e w' => e = .returned (.bool true) ∧ Below w1.heap.size w1 w')) (HF : (∀ w1, Below w.heap.size w w1 → Calls Tryd.prog 25 #[.string d, .string y] w1 fun e w' => e = .returned (.tuple #[.string p, .bool false]) ∧ Below w1.heap.size w1 w')) (HR : (∀ w1, Below w.heap.size w w1 → Calls Tryd.prog 26 #[.string d, .string y] w1 fun e w' => e = .returned (.tuple #[.string q, .bool false]) ∧ Below w1.heap.size w1 w')) (HW : (∀ w1, Below w.heap.size w w1 → Calls Tryd.prog 11 #[.string y] w1 fun e w' => e = .returned (.bool true) ∧ Below w1.heap.size w1 w')) (HG : (∀ w1, Below w.heap.size w w1 → Calls Tryd.prog 11 #[.string j] w1 fun e w' => e = .returned (.bool false) ∧ Below w1.heap.size w1 w')) :
    Calls Tryd.prog 7 #[.string d, .string y] w (LawEnd w) := by
  have hdI : (d.size : Int) ≤ 512 := by omega
  have hyI : (y.size : Int) ≤ 512 := by omega
  have H9 := Lib.hid (alive_any m w hm)
  have HD' := Lib.hid HD
  have HF' := Lib.hid HF
  have HR' := Lib.hid HR
  have HW' := Lib.hid HW
  have HG' := Lib.hid HG
  have HJ' := Lib.hid HJ
  clear HD HF HR HW HG HJ
  go_enter Tryd.func7, Tryd.ntmps7
  go_wp2_with fail
  refine H9.out.mono ?_
  rintro e w1 ⟨rfl, hB⟩
  go_wp2_with fail
  refine (HD'.out _ hB).mono ?_
  rintro e w2 ⟨rfl, hB2⟩
  replace hB := hB.trans (hB2.mono hB.size)
  clear hB2
  go_wp2_with fail
  refine (HF'.out _ hB).mono ?_
  rintro e w3 ⟨rfl, hB2⟩
  replace hB := hB.trans (hB2.mono hB.size)
  clear hB2
  go_wp2_with fail
  refine (HR'.out _ hB).mono ?_
  rintro e w4 ⟨rfl, hB2⟩
  replace hB := hB.trans (hB2.mono hB.size)
  clear hB2
  go_wp2_with fail
  refine (HW'.out _ hB).mono ?_
  rintro e w5 ⟨rfl, hB2⟩
  replace hB := hB.trans (hB2.mono hB.size)
  clear hB2
  go_wp2_with fail
  refine (HJ'.out _).mono ?_
  rintro e w6 ⟨rfl, hB2⟩
  replace hB := hB.trans (hB2.mono hB.size)
  clear hB2
  go_wp2_with fail
  refine (HG'.out _ hB).mono ?_
  rintro e w7 ⟨rfl, hB2⟩
  replace hB := hB.trans (hB2.mono hB.size)
  clear hB2
  go_wp2_with fail
  go_ret
  exact ⟨rfl, hB⟩
set_option maxHeartbeats 1000000 in
theorem goes_010 (d y p : ByteArray) (m : Int) (w : World) (hd : d.size ≤ 512) (hy : y.size ≤ 512) (hm : w.cell? ⟨0, 0, none⟩ = some (.int .i64 m)) (d1 : (!d.toList.isEmpty) = true) (d2 : (d.toList == ([] : List UInt8)) = false)
    (HD : (∀ w1, Below w.heap.size w w1 → Calls Tryd.prog 11 #[.string d] w1 fun e w' => e = .returned (.bool true) ∧ Below w1.heap.size w1 w')) (HF : (∀ w1, Below w.heap.size w w1 → Calls Tryd.prog 25 #[.string d, .string y] w1 fun e w' => e = .returned (.tuple #[.string p, .bool true]) ∧ Below w1.heap.size w1 w')) (HR : (∀ w1, Below w.heap.size w w1 → Calls Tryd.prog 26 #[.string d, .string y] w1 fun e w' => e = .returned (.tuple #[.string p, .bool true]) ∧ Below w1.heap.size w1 w')) (HW : (∀ w1, Below w.heap.size w w1 → Calls Tryd.prog 11 #[.string y] w1 fun e w' => e = .returned (.bool false) ∧ Below w1.heap.size w1 w')) :
    Calls Tryd.prog 7 #[.string d, .string y] w (LawEnd w) := by
  have hdI : (d.size : Int) ≤ 512 := by omega
  have hyI : (y.size : Int) ≤ 512 := by omega
  have H9 := Lib.hid (alive_any m w hm)
  have HD' := Lib.hid HD
  have HF' := Lib.hid HF
  have HR' := Lib.hid HR
  have HW' := Lib.hid HW
  clear HD HF HR HW
  go_enter Tryd.func7, Tryd.ntmps7
  go_wp2_with fail
  refine H9.out.mono ?_
  rintro e w1 ⟨rfl, hB⟩
  go_wp2_with fail
  refine (HD'.out _ hB).mono ?_
  rintro e w2 ⟨rfl, hB2⟩
  replace hB := hB.trans (hB2.mono hB.size)
  clear hB2
  go_wp2_with fail
  refine (HF'.out _ hB).mono ?_
  rintro e w3 ⟨rfl, hB2⟩
  replace hB := hB.trans (hB2.mono hB.size)
  clear hB2
  go_wp2_with fail
  refine (HR'.out _ hB).mono ?_
  rintro e w4 ⟨rfl, hB2⟩
  replace hB := hB.trans (hB2.mono hB.size)
  clear hB2
  go_wp2_with fail
  refine (HW'.out _ hB).mono ?_
  rintro e w5 ⟨rfl, hB2⟩
  replace hB := hB.trans (hB2.mono hB.size)
  clear hB2
  go_wp2_with fail
  go_ret
  exact ⟨rfl, hB⟩
set_option maxHeartbeats 1000000 in
theorem goes_011 (d y p : ByteArray) (m : Int) (w : World) (hd : d.size ≤ 512) (hy : y.size ≤ 512) (hm : w.cell? ⟨0, 0, none⟩ = some (.int .i64 m)) (d1 : (!d.toList.isEmpty) = true) (d2 : (d.toList == ([] : List UInt8)) = false)
    (HJ : ∀ w1, Calls Tryd.prog 21 #[.slice (some ⟨w1.heap.size, 0, none⟩) 2 2] (w1.alloc (.cells #[.string d, .string y] 9)) fun e w' => e = .returned (.string p) ∧ Below w1.heap.size w1 w') (HD : (∀ w1, Below w.heap.size w w1 → Calls Tryd.prog 11 #[.string d] w1 fun e w' => e = .returned (.bool true) ∧ Below w1.heap.size w1 w')) (HF : (∀ w1, Below w.heap.size w w1 → Calls Tryd.prog 25 #[.string d, .string y] w1 fun e w' => e = .returned (.tuple #[.string p, .bool true]) ∧ Below w1.heap.size w1 w')) (HR : (∀ w1, Below w.heap.size w w1 → Calls Tryd.prog 26 #[.string d, .string y] w1 fun e w' => e = .returned (.tuple #[.string p, .bool true]) ∧ Below w1.heap.size w1 w')) (HW : (∀ w1, Below w.heap.size w w1 → Calls Tryd.prog 11 #[.string y] w1 fun e w' => e = .returned (.bool true) ∧ Below w1.heap.size w1 w')) (HG : (∀ w1, Below w.heap.size w w1 → Calls Tryd.prog 11 #[.string p] w1 fun e w' => e = .returned (.bool true) ∧ Below w1.heap.size w1 w')) :
    Calls Tryd.prog 7 #[.string d, .string y] w (LawEnd w) := by
  have hdI : (d.size : Int) ≤ 512 := by omega
  have hyI : (y.size : Int) ≤ 512 := by omega
  have H9 := Lib.hid (alive_any m w hm)
  have HD' := Lib.hid HD
  have HF' := Lib.hid HF
  have HR' := Lib.hid HR
  have HW' := Lib.hid HW
  have HG' := Lib.hid HG
  have HJ' := Lib.hid HJ
  clear HD HF HR HW HG HJ
  go_enter Tryd.func7, Tryd.ntmps7
  go_wp2_with fail
  refine H9.out.mono ?_
  rintro e w1 ⟨rfl, hB⟩
  go_wp2_with fail
  refine (HD'.out _ hB).mono ?_
  rintro e w2 ⟨rfl, hB2⟩
  replace hB := hB.trans (hB2.mono hB.size)
  clear hB2
  go_wp2_with fail
  refine (HF'.out _ hB).mono ?_
  rintro e w3 ⟨rfl, hB2⟩
  replace hB := hB.trans (hB2.mono hB.size)
  clear hB2
  go_wp2_with fail
  refine (HR'.out _ hB).mono ?_
  rintro e w4 ⟨rfl, hB2⟩
  replace hB := hB.trans (hB2.mono hB.size)
  clear hB2
  go_wp2_with fail
  refine (HW'.out _ hB).mono ?_
  rintro e w5 ⟨rfl, hB2⟩
  replace hB := hB.trans (hB2.mono hB.size)
  clear hB2
  go_wp2_with fail
  refine (HJ'.out _).mono ?_
  rintro e w6 ⟨rfl, hB2⟩
  replace hB := hB.trans (hB2.mono hB.size)
  clear hB2
  go_wp2_with fail
  refine (HG'.out _ hB).mono ?_
  rintro e w7 ⟨rfl, hB2⟩
  replace hB := hB.trans (hB2.mono hB.size)
  clear hB2
  go_wp2_with fail
  go_ret
  exact ⟨rfl, hB⟩
set_option maxHeartbeats 1000000 in
theorem goes_100 (d y p q : ByteArray) (m : Int) (w : World) (hd : d.size ≤ 512) (hy : y.size ≤ 512) (hm : w.cell? ⟨0, 0, none⟩ = some (.int .i64 m)) (d1 : (!d.toList.isEmpty) = false) (d2 : (d.toList == ([] : List UInt8)) = true)
    (HF : (∀ w1, Below w.heap.size w w1 → Calls Tryd.prog 25 #[.string d, .string y] w1 fun e w' => e = .returned (.tuple #[.string p, .bool false]) ∧ Below w1.heap.size w1 w')) (HR : (∀ w1, Below w.heap.size w w1 → Calls Tryd.prog 26 #[.string d, .string y] w1 fun e w' => e = .returned (.tuple #[.string q, .bool false]) ∧ Below w1.heap.size w1 w')) (HW : (∀ w1, Below w.heap.size w w1 → Calls Tryd.prog 11 #[.string y] w1 fun e w' => e = .returned (.bool false) ∧ Below w1.heap.size w1 w')) :
    Calls Tryd.prog 7 #[.string d, .string y] w (LawEnd w) := by
  have hdI : (d.size : Int) ≤ 512 := by omega
  have hyI : (y.size : Int) ≤ 512 := by omega
  have H9 := Lib.hid (alive_any m w hm)
  have HF' := Lib.hid HF
  have HR' := Lib.hid HR
  have HW' := Lib.hid HW
  clear HF HR HW
  go_enter Tryd.func7, Tryd.ntmps7
  go_wp2_with fail
  refine H9.out.mono ?_
  rintro e w1 ⟨rfl, hB⟩
  go_wp2_with fail
  refine (HF'.out _ hB).mono ?_
  rintro e w2 ⟨rfl, hB2⟩
  replace hB := hB.trans (hB2.mono hB.size)
  clear hB2
  go_wp2_with fail
  refine (HR'.out _ hB).mono ?_
  rintro e w3 ⟨rfl, hB2⟩
  replace hB := hB.trans (hB2.mono hB.size)
  clear hB2
  go_wp2_with fail
  refine (HW'.out _ hB).mono ?_
  rintro e w4 ⟨rfl, hB2⟩
  replace hB := hB.trans (hB2.mono hB.size)
  clear hB2
  go_wp2_with fail
  go_ret
  exact ⟨rfl, hB⟩
set_option maxHeartbeats 1000000 in
theorem goes_101 (d y p q j : ByteArray) (m : Int) (w : World) (hd : d.size ≤ 512) (hy : y.size ≤ 512) (hm : w.cell? ⟨0, 0, none⟩ = some (.int .i64 m)) (d1 : (!d.toList.isEmpty) = false) (d2 : (d.toList == ([] : List UInt8)) = true)
    (HJ : ∀ w1, Calls Tryd.prog 21 #[.slice (some ⟨w1.heap.size, 0, none⟩) 2 2] (w1.alloc (.cells #[.string d, .string y] 9)) fun e w' => e = .returned (.string j) ∧ Below w1.heap.size w1 w') (HF : (∀ w1, Below w.heap.size w w1 → Calls Tryd.prog 25 #[.string d, .string y] w1 fun e w' => e = .returned (.tuple #[.string p, .bool false]) ∧ Below w1.heap.size w1 w')) (HR : (∀ w1, Below w.heap.size w w1 → Calls Tryd.prog 26 #[.string d, .string y] w1 fun e w' => e = .returned (.tuple #[.string q, .bool false]) ∧ Below w1.heap.size w1 w')) (HW : (∀ w1, Below w.heap.size w w1 → Calls Tryd.prog 11 #[.string y] w1 fun e w' => e = .returned (.bool true) ∧ Below w1.heap.size w1 w')) (HG : (∀ w1, Below w.heap.size w w1 → Calls Tryd.prog 11 #[.string j] w1 fun e w' => e = .returned (.bool false) ∧ Below w1.heap.size w1 w')) :
    Calls Tryd.prog 7 #[.string d, .string y] w (LawEnd w) := by
  have hdI : (d.size : Int) ≤ 512 := by omega
  have hyI : (y.size : Int) ≤ 512 := by omega
  have H9 := Lib.hid (alive_any m w hm)
  have HF' := Lib.hid HF
  have HR' := Lib.hid HR
  have HW' := Lib.hid HW
  have HG' := Lib.hid HG
  have HJ' := Lib.hid HJ
  clear HF HR HW HG HJ
  go_enter Tryd.func7, Tryd.ntmps7
  go_wp2_with fail
  refine H9.out.mono ?_
  rintro e w1 ⟨rfl, hB⟩
  go_wp2_with fail
  refine (HF'.out _ hB).mono ?_
  rintro e w2 ⟨rfl, hB2⟩
  replace hB := hB.trans (hB2.mono hB.size)
  clear hB2
  go_wp2_with fail
  refine (HR'.out _ hB).mono ?_
  rintro e w3 ⟨rfl, hB2⟩
  replace hB := hB.trans (hB2.mono hB.size)
  clear hB2
  go_wp2_with fail
  refine (HW'.out _ hB).mono ?_
  rintro e w4 ⟨rfl, hB2⟩
  replace hB := hB.trans (hB2.mono hB.size)
  clear hB2
  go_wp2_with fail
  refine (HJ'.out _).mono ?_
  rintro e w5 ⟨rfl, hB2⟩
  replace hB := hB.trans (hB2.mono hB.size)
  clear hB2
  go_wp2_with fail
  refine (HG'.out _ hB).mono ?_
  rintro e w6 ⟨rfl, hB2⟩
  replace hB := hB.trans (hB2.mono hB.size)
  clear hB2
  go_wp2_with fail
  go_ret
  exact ⟨rfl, hB⟩
set_option maxHeartbeats 1000000 in
theorem goes_110 (d y p : ByteArray) (m : Int) (w : World) (hd : d.size ≤ 512) (hy : y.size ≤ 512) (hm : w.cell? ⟨0, 0, none⟩ = some (.int .i64 m)) (d1 : (!d.toList.isEmpty) = false) (d2 : (d.toList == ([] : List UInt8)) = true)
    (HF : (∀ w1, Below w.heap.size w w1 → Calls Tryd.prog 25 #[.string d, .string y] w1 fun e w' => e = .returned (.tuple #[.string p, .bool true]) ∧ Below w1.heap.size w1 w')) (HR : (∀ w1, Below w.heap.size w w1 → Calls Tryd.prog 26 #[.string d, .string y] w1 fun e w' => e = .returned (.tuple #[.string p, .bool true]) ∧ Below w1.heap.size w1 w')) (HW : (∀ w1, Below w.heap.size w w1 → Calls Tryd.prog 11 #[.string y] w1 fun e w' => e = .returned (.bool false) ∧ Below w1.heap.size w1 w')) :
    Calls Tryd.prog 7 #[.string d, .string y] w (LawEnd w) := by
  have hdI : (d.size : Int) ≤ 512 := by omega
  have hyI : (y.size : Int) ≤ 512 := by omega
  have H9 := Lib.hid (alive_any m w hm)
  have HF' := Lib.hid HF
  have HR' := Lib.hid HR
  have HW' := Lib.hid HW
  clear HF HR HW
  go_enter Tryd.func7, Tryd.ntmps7
  go_wp2_with fail
  refine H9.out.mono ?_
  rintro e w1 ⟨rfl, hB⟩
  go_wp2_with fail
  refine (HF'.out _ hB).mono ?_
  rintro e w2 ⟨rfl, hB2⟩
  replace hB := hB.trans (hB2.mono hB.size)
  clear hB2
  go_wp2_with fail
  refine (HR'.out _ hB).mono ?_
  rintro e w3 ⟨rfl, hB2⟩
  replace hB := hB.trans (hB2.mono hB.size)
  clear hB2
  go_wp2_with fail
  refine (HW'.out _ hB).mono ?_
  rintro e w4 ⟨rfl, hB2⟩
  replace hB := hB.trans (hB2.mono hB.size)
  clear hB2
  go_wp2_with fail
  go_ret
  exact ⟨rfl, hB⟩
set_option maxHeartbeats 1000000 in
theorem goes_111 (d y p : ByteArray) (m : Int) (w : World) (hd : d.size ≤ 512) (hy : y.size ≤ 512) (hm : w.cell? ⟨0, 0, none⟩ = some (.int .i64 m)) (d1 : (!d.toList.isEmpty) = false) (d2 : (d.toList == ([] : List UInt8)) = true)
    (HJ : ∀ w1, Calls Tryd.prog 21 #[.slice (some ⟨w1.heap.size, 0, none⟩) 2 2] (w1.alloc (.cells #[.string d, .string y] 9)) fun e w' => e = .returned (.string p) ∧ Below w1.heap.size w1 w') (HF : (∀ w1, Below w.heap.size w w1 → Calls Tryd.prog 25 #[.string d, .string y] w1 fun e w' => e = .returned (.tuple #[.string p, .bool true]) ∧ Below w1.heap.size w1 w')) (HR : (∀ w1, Below w.heap.size w w1 → Calls Tryd.prog 26 #[.string d, .string y] w1 fun e w' => e = .returned (.tuple #[.string p, .bool true]) ∧ Below w1.heap.size w1 w')) (HW : (∀ w1, Below w.heap.size w w1 → Calls Tryd.prog 11 #[.string y] w1 fun e w' => e = .returned (.bool true) ∧ Below w1.heap.size w1 w')) (HG : (∀ w1, Below w.heap.size w w1 → Calls Tryd.prog 11 #[.string p] w1 fun e w' => e = .returned (.bool true) ∧ Below w1.heap.size w1 w')) :
    Calls Tryd.prog 7 #[.string d, .string y] w (LawEnd w) := by
  have hdI : (d.size : Int) ≤ 512 := by omega
  have hyI : (y.size : Int) ≤ 512 := by omega
  have H9 := Lib.hid (alive_any m w hm)
  have HF' := Lib.hid HF
  have HR' := Lib.hid HR
  have HW' := Lib.hid HW
  have HG' := Lib.hid HG
  have HJ' := Lib.hid HJ
  clear HF HR HW HG HJ
  go_enter Tryd.func7, Tryd.ntmps7
  go_wp2_with fail
  refine H9.out.mono ?_
  rintro e w1 ⟨rfl, hB⟩
  go_wp2_with fail
  refine (HF'.out _ hB).mono ?_
  rintro e w2 ⟨rfl, hB2⟩
  replace hB := hB.trans (hB2.mono hB.size)
  clear hB2
  go_wp2_with fail
  refine (HR'.out _ hB).mono ?_
  rintro e w3 ⟨rfl, hB2⟩
  replace hB := hB.trans (hB2.mono hB.size)
  clear hB2
  go_wp2_with fail
  refine (HW'.out _ hB).mono ?_
  rintro e w4 ⟨rfl, hB2⟩
  replace hB := hB.trans (hB2.mono hB.size)
  clear hB2
  go_wp2_with fail
  refine (HJ'.out _).mono ?_
  rintro e w5 ⟨rfl, hB2⟩
  replace hB := hB.trans (hB2.mono hB.size)
  clear hB2
  go_wp2_with fail
  refine (HG'.out _ hB).mono ?_
  rintro e w6 ⟨rfl, hB2⟩
  replace hB := hB.trans (hB2.mono hB.size)
  clear hB2
  go_wp2_with fail
  go_ret
  exact ⟨rfl, hB⟩
theorem goes_la (d y : ByteArray) (m : Int) (w : World) (hd : ¬ (d.size : Int) ≤ 512) (hm : w.cell? ⟨0, 0, none⟩ = some (.int .i64 m)) : Calls Tryd.prog 7 #[.string d, .string y] w (LawEnd w) := by
  have H9 := Lib.hid (alive_any m w hm)
  go_enter Tryd.func7, Tryd.ntmps7
  go_wp2_with fail
  refine H9.out.mono ?_
  rintro e w1 ⟨rfl, hB⟩
  go_wp2_with fail
  go_ret
  exact ⟨rfl, hB⟩
theorem goes_lb (d y : ByteArray) (m : Int) (w : World) (hd : (d.size : Int) ≤ 512) (hy : ¬ (y.size : Int) ≤ 512) (hm : w.cell? ⟨0, 0, none⟩ = some (.int .i64 m)) : Calls Tryd.prog 7 #[.string d, .string y] w (LawEnd w) := by
  have H9 := Lib.hid (alive_any m w hm)
  go_enter Tryd.func7, Tryd.ntmps7
  go_wp2_with fail
  refine H9.out.mono ?_
  rintro e w1 ⟨rfl, hB⟩
  go_wp2_with fail
  go_ret
  exact ⟨rfl, hB⟩
theorem goes_bad (d y : ByteArray) (m : Int) (w : World) (hd : (d.size : Int) ≤ 512) (hy : (y.size : Int) ≤ 512) (hm : w.cell? ⟨0, 0, none⟩ = some (.int .i64 m)) (d1 : (!d.toList.isEmpty) = true) (d2 : (d.toList == ([] : List UInt8)) = false) (HD : (∀ w1, Below w.heap.size w w1 → Calls Tryd.prog 11 #[.string d] w1 fun e w' => e = .returned (.bool false) ∧ Below w1.heap.size w1 w')) : Calls Tryd.prog 7 #[.string d, .string y] w (LawEnd w) := by
  have H9 := Lib.hid (alive_any m w hm)
  have HD' := Lib.hid HD
  clear HD
  go_enter Tryd.func7, Tryd.ntmps7
  go_wp2_with fail
  refine H9.out.mono ?_
  rintro e w1 ⟨rfl, hB⟩
  go_wp2_with fail
  refine (HD'.out _ hB).mono ?_
  rintro e w2 ⟨rfl, hB2⟩
  replace hB := hB.trans (hB2.mono hB.size)
  clear hB2
  go_wp2_with fail
  go_ret
  exact ⟨rfl, hB⟩
theorem refGood_to (a : ByteArray) (g : Bool) (w : World) (ha : a.size ≤ 8192) (hg : goodB a = g) : (∀ w1, Below w.heap.size w w1 → Calls Tryd.prog 11 #[.string a] w1 fun e w' => e = .returned (.bool g) ∧ Below w1.heap.size w1 w') := by
  intro w1 hB
  have := refGood_any a w1 (by omega)
  rw [hg] at this
  exact this
theorem goes_walk (d y : ByteArray) (m : Int) (w : World) (hm : w.cell? ⟨0, 0, none⟩ = some (.int .i64 m)) : Calls Tryd.prog 7 #[.string d, .string y] w (LawEnd w) := by
  by_cases hd : d.size ≤ 512
  · by_cases hy : y.size ≤ 512
    · have HF : ∀ w1, Below w.heap.size w w1 → Calls Tryd.prog 25 #[.string d, .string y] w1 fun e w' => e = .returned (.tuple #[.string (fromP d y).1, .bool (fromP d y).2]) ∧ Below w1.heap.size w1 w' := fun w1 hB => from_any d y m w1 (hm_below hm hB) (by omega) (by omega)
      have HR : ∀ w1, Below w.heap.size w w1 → Calls Tryd.prog 26 #[.string d, .string y] w1 fun e w' => e = .returned (.tuple #[.string (fromR d y).1, .bool (fromR d y).2]) ∧ Below w1.heap.size w1 w' := fun w1 hB => refFrom_any d y m w1 (hm_below hm hB) (by omega) (by omega)
      have HW := refGood_to y _ w (by omega) rfl
      have HJ := fun w1 => join2_any d y w1 (by omega)
      have HG := refGood_to (jn d y) _ w (by have := jn_size d y; omega) rfl
      have main : (some1 d = false ∨ goodB d = true) → (fromP d y).2 = (fromR d y).2 ∧ ((fromP d y).2 = true → (fromP d y).1 = (fromR d y).1) ∧ (goodB y = true → (fromP d y).2 = goodB (jn d y) ∧ ((fromP d y).2 = true → (fromP d y).1 = jn d y)) := fun h => ⟨(from_same h).1, (from_same h).2, fun hy => from_down h hy⟩
      generalize (fromP d y).1 = p at *
      generalize (fromP d y).2 = ok at *
      generalize (fromR d y).1 = q at *
      generalize (fromR d y).2 = ok2 at *
      generalize jn d y = j at *
      generalize goodB j = gj at *
      cases hs : some1 d with
      | false =>
        obtain ⟨d1, d2⟩ := none_facts hs
        obtain ⟨e1, e2, e3⟩ := main (.inl hs)
        subst e1
        cases hw : goodB y with
        | false =>
          rw [hw] at HW
          cases ok with
          | false => exact goes_100 d y p q m w hd hy hm d1 d2 HF HR HW
          | true =>
            have e := e2 rfl
            subst e
            exact goes_110 d y p m w hd hy hm d1 d2 HF HR HW
        | true =>
          rw [hw] at HW
          obtain ⟨e4, e5⟩ := e3 hw
          subst e4
          cases ok with
          | false => exact goes_101 d y p q j m w hd hy hm d1 d2 HJ HF HR HW HG
          | true =>
            have e := e2 rfl
            have e6 := e5 rfl
            subst e
            subst e6
            exact goes_111 d y p m w hd hy hm d1 d2 HJ HF HR HW HG
      | true =>
        obtain ⟨d1, d2⟩ := some_facts hs
        cases hg : goodB d with
        | false => exact goes_bad d y m w (by omega) (by omega) hm d1 d2 (refGood_to d false w (by omega) hg)
        | true =>
          have HD := refGood_to d true w (by omega) hg
          obtain ⟨e1, e2, e3⟩ := main (.inr hg)
          subst e1
          cases hw : goodB y with
          | false =>
            rw [hw] at HW
            cases ok with
            | false => exact goes_000 d y p q m w hd hy hm d1 d2 HD HF HR HW
            | true =>
              have e := e2 rfl
              subst e
              exact goes_010 d y p m w hd hy hm d1 d2 HD HF HR HW
          | true =>
            rw [hw] at HW
            obtain ⟨e4, e5⟩ := e3 hw
            subst e4
            cases ok with
            | false => exact goes_001 d y p q j m w hd hy hm d1 d2 HJ HD HF HR HW HG
            | true =>
              have e := e2 rfl
              have e6 := e5 rfl
              subst e
              subst e6
              exact goes_011 d y p m w hd hy hm d1 d2 HJ HD HF HR HW HG
    · exact goes_lb d y m w (by omega) (by omega) hm
  · exact goes_la d y m w (by omega) hm
end Go.Proofs.YthgbclgdaaaefaaDoor
