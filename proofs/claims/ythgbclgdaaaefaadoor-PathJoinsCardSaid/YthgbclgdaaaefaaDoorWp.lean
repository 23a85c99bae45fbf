/- Walks: the law PathLies. -/
import Derived.Test.YthgbclgdaaaefaaDoorWo
import Derived.Test.YthgbclgdaaaefaaDoorWm
namespace Go.Proofs.YthgbclgdaaaefaaDoor
set_option linter.unusedVariables false
open Go.ChangeShapes Go.WideShapes Go.ChangeAt Go.RowKit

set_option maxHeartbeats 1000000 in
theorem lies_main (a b c x y q n : ByteArray) (m : Int) (w : World) (ha : a.size ≤ 512) (hb : b.size ≤ 512) (hc : c.size ≤ 512) (hm : w.cell? ⟨0, 0, none⟩ = some (.int .i64 m))
    (GA : (∀ w1, Below w.heap.size w w1 → Calls Tryd.prog 11 #[.string a] w1 fun e w' => e = .returned (.bool true) ∧ Below w1.heap.size w1 w')) (GB : (∀ w1, Below w.heap.size w w1 → Calls Tryd.prog 11 #[.string b] w1 fun e w' => e = .returned (.bool true) ∧ Below w1.heap.size w1 w')) (GC : (∀ w1, Below w.heap.size w w1 → Calls Tryd.prog 11 #[.string c] w1 fun e w' => e = .returned (.bool true) ∧ Below w1.heap.size w1 w')) (J1 : (∀ w1, Calls Tryd.prog 21 #[.slice (some ⟨w1.heap.size, 0, none⟩) 2 2] (w1.alloc (.cells #[.string a, .string b] 9)) fun e w' => e = .returned (.string x) ∧ Below w1.heap.size w1 w')) (J2 : (∀ w1, Calls Tryd.prog 21 #[.slice (some ⟨w1.heap.size, 0, none⟩) 2 2] (w1.alloc (.cells #[.string x, .string c] 9)) fun e w' => e = .returned (.string y) ∧ Below w1.heap.size w1 w')) (J3 : (∀ w1, Calls Tryd.prog 21 #[.slice (some ⟨w1.heap.size, 0, none⟩) 2 2] (w1.alloc (.cells #[.string b, .string c] 9)) fun e w' => e = .returned (.string q) ∧ Below w1.heap.size w1 w')) (U1 : (∀ w1, Below w.heap.size w w1 → Calls Tryd.prog 19 #[.string a, .string x] w1 fun e w' => e = .returned (.tuple #[.string b, .bool true]) ∧ Below w1.heap.size w1 w')) (U2 : (∀ w1, Below w.heap.size w w1 → Calls Tryd.prog 19 #[.string a, .string y] w1 fun e w' => e = .returned (.tuple #[.string q, .bool true]) ∧ Below w1.heap.size w1 w')) (U3 : (∀ w1, Below w.heap.size w w1 → Calls Tryd.prog 19 #[.string x, .string y] w1 fun e w' => e = .returned (.tuple #[.string c, .bool true]) ∧ Below w1.heap.size w1 w')) (U4 : (∀ w1, Below w.heap.size w w1 → Calls Tryd.prog 19 #[.string a, .string a] w1 fun e w' => e = .returned (.tuple #[.string n, .bool false]) ∧ Below w1.heap.size w1 w')) (C1 : (∀ w1, Below w.heap.size w w1 → Calls Tryd.prog 23 #[.string a, .string x] w1 fun e w' => e = .returned (.int .i64 (-1)) ∧ Below w1.heap.size w1 w')) (C2 : (∀ w1, Below w.heap.size w w1 → Calls Tryd.prog 23 #[.string x, .string y] w1 fun e w' => e = .returned (.int .i64 (-1)) ∧ Below w1.heap.size w1 w')) :
    Calls Tryd.prog 8 #[.string a, .string b, .string c] w (LawEnd w) := by
  have haI : (a.size : Int) ≤ 512 := by omega
  have hbI : (b.size : Int) ≤ 512 := by omega
  have hcI : (c.size : Int) ≤ 512 := by omega
  have H9 := Lib.hid (alive_any m w hm)
  have GA' := Lib.hid GA
  have GB' := Lib.hid GB
  have GC' := Lib.hid GC
  have J1' := Lib.hid J1
  have J2' := Lib.hid J2
  have J3' := Lib.hid J3
  have U1' := Lib.hid U1
  have U2' := Lib.hid U2
  have U3' := Lib.hid U3
  have U4' := Lib.hid U4
  have C1' := Lib.hid C1
  have C2' := Lib.hid C2
  clear GA GB GC J1 J2 J3 U1 U2 U3 U4 C1 C2
  go_enter Tryd.func8, Tryd.ntmps8
  go_wp2_with fail
  refine H9.out.mono ?_
  rintro e w1 ⟨rfl, hB⟩
  go_wp2_with fail
  refine (GA'.out _ hB).mono ?_
  rintro e w2 ⟨rfl, hB2⟩
  replace hB := hB.trans (hB2.mono hB.size)
  clear hB2
  go_wp2_with fail
  refine (GB'.out _ hB).mono ?_
  rintro e w3 ⟨rfl, hB2⟩
  replace hB := hB.trans (hB2.mono hB.size)
  clear hB2
  go_wp2_with fail
  refine (GC'.out _ hB).mono ?_
  rintro e w4 ⟨rfl, hB2⟩
  replace hB := hB.trans (hB2.mono hB.size)
  clear hB2
  go_wp2_with fail
  refine (J1'.out _).mono ?_
  rintro e w5 ⟨rfl, hB2⟩
  replace hB := hB.trans (hB2.mono hB.size)
  clear hB2
  go_wp2_with fail
  refine (J2'.out _).mono ?_
  rintro e w6 ⟨rfl, hB2⟩
  replace hB := hB.trans (hB2.mono hB.size)
  clear hB2
  go_wp2_with fail
  refine (U1'.out _ hB).mono ?_
  rintro e w7 ⟨rfl, hB2⟩
  replace hB := hB.trans (hB2.mono hB.size)
  clear hB2
  go_wp2_with fail
  refine (U2'.out _ hB).mono ?_
  rintro e w8 ⟨rfl, hB2⟩
  replace hB := hB.trans (hB2.mono hB.size)
  clear hB2
  go_wp2_with fail
  refine (U3'.out _ hB).mono ?_
  rintro e w9 ⟨rfl, hB2⟩
  replace hB := hB.trans (hB2.mono hB.size)
  clear hB2
  go_wp2_with fail
  refine (U4'.out _ hB).mono ?_
  rintro e w10 ⟨rfl, hB2⟩
  replace hB := hB.trans (hB2.mono hB.size)
  clear hB2
  go_wp2_with fail
  refine (J3'.out _).mono ?_
  rintro e w11 ⟨rfl, hB2⟩
  replace hB := hB.trans (hB2.mono hB.size)
  clear hB2
  go_wp2_with fail
  refine (C1'.out _ hB).mono ?_
  rintro e w12 ⟨rfl, hB2⟩
  replace hB := hB.trans (hB2.mono hB.size)
  clear hB2
  go_wp2_with fail
  refine (C2'.out _ hB).mono ?_
  rintro e w13 ⟨rfl, hB2⟩
  replace hB := hB.trans (hB2.mono hB.size)
  clear hB2
  go_wp2_with fail
  go_ret
  exact ⟨rfl, hB⟩
theorem lies_longa (a b c : ByteArray) (m : Int) (w : World) (ha : ¬ (a.size : Int) ≤ 512) (hm : w.cell? ⟨0, 0, none⟩ = some (.int .i64 m)) : Calls Tryd.prog 8 #[.string a, .string b, .string c] w (LawEnd w) := by
  have H9 := Lib.hid (alive_any m w hm)
  go_enter Tryd.func8, Tryd.ntmps8
  go_wp2_with fail
  refine H9.out.mono ?_
  rintro e w1 ⟨rfl, hB⟩
  go_wp2_with fail
  go_ret
  exact ⟨rfl, hB⟩
theorem lies_longb (a b c : ByteArray) (m : Int) (w : World) (ha : (a.size : Int) ≤ 512) (hb : ¬ (b.size : Int) ≤ 512) (hm : w.cell? ⟨0, 0, none⟩ = some (.int .i64 m)) : Calls Tryd.prog 8 #[.string a, .string b, .string c] w (LawEnd w) := by
  have H9 := Lib.hid (alive_any m w hm)
  go_enter Tryd.func8, Tryd.ntmps8
  go_wp2_with fail
  refine H9.out.mono ?_
  rintro e w1 ⟨rfl, hB⟩
  go_wp2_with fail
  go_ret
  exact ⟨rfl, hB⟩
theorem lies_longc (a b c : ByteArray) (m : Int) (w : World) (ha : (a.size : Int) ≤ 512) (hb : (b.size : Int) ≤ 512) (hc : ¬ (c.size : Int) ≤ 512) (hm : w.cell? ⟨0, 0, none⟩ = some (.int .i64 m)) : Calls Tryd.prog 8 #[.string a, .string b, .string c] w (LawEnd w) := by
  have H9 := Lib.hid (alive_any m w hm)
  go_enter Tryd.func8, Tryd.ntmps8
  go_wp2_with fail
  refine H9.out.mono ?_
  rintro e w1 ⟨rfl, hB⟩
  go_wp2_with fail
  go_ret
  exact ⟨rfl, hB⟩
theorem lies_bad1 (a b c : ByteArray) (m : Int) (w : World) (ha : (a.size : Int) ≤ 512) (hb : (b.size : Int) ≤ 512) (hc : (c.size : Int) ≤ 512) (hm : w.cell? ⟨0, 0, none⟩ = some (.int .i64 m)) (GA : (∀ w1, Below w.heap.size w w1 → Calls Tryd.prog 11 #[.string a] w1 fun e w' => e = .returned (.bool false) ∧ Below w1.heap.size w1 w')) : Calls Tryd.prog 8 #[.string a, .string b, .string c] w (LawEnd w) := by
  have H9 := Lib.hid (alive_any m w hm)
  have GA' := Lib.hid GA
  clear GA
  go_enter Tryd.func8, Tryd.ntmps8
  go_wp2_with fail
  refine H9.out.mono ?_
  rintro e w1 ⟨rfl, hB⟩
  go_wp2_with fail
  refine (GA'.out _ hB).mono ?_
  rintro e w2 ⟨rfl, hB2⟩
  replace hB := hB.trans (hB2.mono hB.size)
  clear hB2
  go_wp2_with fail
  go_ret
  exact ⟨rfl, hB⟩
theorem lies_bad2 (a b c : ByteArray) (m : Int) (w : World) (ha : (a.size : Int) ≤ 512) (hb : (b.size : Int) ≤ 512) (hc : (c.size : Int) ≤ 512) (hm : w.cell? ⟨0, 0, none⟩ = some (.int .i64 m)) (GA : (∀ w1, Below w.heap.size w w1 → Calls Tryd.prog 11 #[.string a] w1 fun e w' => e = .returned (.bool true) ∧ Below w1.heap.size w1 w')) (GB : (∀ w1, Below w.heap.size w w1 → Calls Tryd.prog 11 #[.string b] w1 fun e w' => e = .returned (.bool false) ∧ Below w1.heap.size w1 w')) : Calls Tryd.prog 8 #[.string a, .string b, .string c] w (LawEnd w) := by
  have H9 := Lib.hid (alive_any m w hm)
  have GA' := Lib.hid GA
  have GB' := Lib.hid GB
  clear GA GB
  go_enter Tryd.func8, Tryd.ntmps8
  go_wp2_with fail
  refine H9.out.mono ?_
  rintro e w1 ⟨rfl, hB⟩
  go_wp2_with fail
  refine (GA'.out _ hB).mono ?_
  rintro e w2 ⟨rfl, hB2⟩
  replace hB := hB.trans (hB2.mono hB.size)
  clear hB2
  go_wp2_with fail
  refine (GB'.out _ hB).mono ?_
  rintro e w3 ⟨rfl, hB2⟩
  replace hB := hB.trans (hB2.mono hB.size)
  clear hB2
  go_wp2_with fail
  go_ret
  exact ⟨rfl, hB⟩
theorem lies_bad3 (a b c : ByteArray) (m : Int) (w : World) (ha : (a.size : Int) ≤ 512) (hb : (b.size : Int) ≤ 512) (hc : (c.size : Int) ≤ 512) (hm : w.cell? ⟨0, 0, none⟩ = some (.int .i64 m)) (GA : (∀ w1, Below w.heap.size w w1 → Calls Tryd.prog 11 #[.string a] w1 fun e w' => e = .returned (.bool true) ∧ Below w1.heap.size w1 w')) (GB : (∀ w1, Below w.heap.size w w1 → Calls Tryd.prog 11 #[.string b] w1 fun e w' => e = .returned (.bool true) ∧ Below w1.heap.size w1 w')) (GC : (∀ w1, Below w.heap.size w w1 → Calls Tryd.prog 11 #[.string c] w1 fun e w' => e = .returned (.bool false) ∧ Below w1.heap.size w1 w')) : Calls Tryd.prog 8 #[.string a, .string b, .string c] w (LawEnd w) := by
  have H9 := Lib.hid (alive_any m w hm)
  have GA' := Lib.hid GA
  have GB' := Lib.hid GB
  have GC' := Lib.hid GC
  clear GA GB GC
  go_enter Tryd.func8, Tryd.ntmps8
  go_wp2_with fail
  refine H9.out.mono ?_
  rintro e w1 ⟨rfl, hB⟩
  go_wp2_with fail
  refine (GA'.out _ hB).mono ?_
  rintro e w2 ⟨rfl, hB2⟩
  replace hB := hB.trans (hB2.mono hB.size)
  clear hB2
  go_wp2_with fail
  refine (GB'.out _ hB).mono ?_
  rintro e w3 ⟨rfl, hB2⟩
  replace hB := hB.trans (hB2.mono hB.size)
  clear hB2
  go_wp2_with fail
  refine (GC'.out _ hB).mono ?_
  rintro e w4 ⟨rfl, hB2⟩
  replace hB := hB.trans (hB2.mono hB.size)
  clear hB2
  go_wp2_with fail
  go_ret
  exact ⟨rfl, hB⟩
theorem lies_walk (a b c : ByteArray) (m : Int) (w : World) (hm : w.cell? ⟨0, 0, none⟩ = some (.int .i64 m)) : Calls Tryd.prog 8 #[.string a, .string b, .string c] w (LawEnd w) := by
  by_cases ha : a.size ≤ 512
  · by_cases hb : b.size ≤ 512
    · by_cases hc : c.size ≤ 512
      · have HA := refGood_to a _ w (by omega) rfl
        have HB := refGood_to b _ w (by omega) rfl
        have HC := refGood_to c _ w (by omega) rfl
        cases ga : goodB a with
        | false => rw [ga] at HA; exact lies_bad1 a b c m w (by omega) (by omega) (by omega) hm HA
        | true =>
          rw [ga] at HA
          cases gb : goodB b with
          | false => rw [gb] at HB; exact lies_bad2 a b c m w (by omega) (by omega) (by omega) hm HA HB
          | true =>
            rw [gb] at HB
            cases gc : goodB c with
            | false => rw [gc] at HC; exact lies_bad3 a b c m w (by omega) (by omega) (by omega) hm HA HB HC
            | true =>
              rw [gc] at HC
              have sa := good_some ga
              have sb := good_some gb
              have sc := good_some gc
              have e1 := jn_two sa sb
              have sx : some1 (jn a b) = true := by rw [e1]; exact some1_app _ _ sb
              have e2 := jn_two sx sc
              have e3 := jn_two sb sc
              have sq : some1 (jn b c) = true := by rw [e3]; exact some1_app _ _ sc
              have e4 : jn (jn a b) c = a ++ ⟨#[47]⟩ ++ jn b c := by rw [e2, e1, e3]; simp only [app_assoc]
              have h1 := jn_size a b
              have h2 := jn_size (jn a b) c
              have h3 := jn_size b c
              have u1 : underB a (jn a b) = (b, true) := by rw [e1]; exact under_two a b sa sb
              have u2 : underB a (jn (jn a b) c) = (jn b c, true) := by rw [e4]; exact under_two a _ sa sq
              have u3 : underB (jn a b) (jn (jn a b) c) = (c, true) := by rw [e2]; exact under_two _ c sx sc
              have u4 : underB a a = ((underB a a).1, false) := by rw [← under_self a sa]
              have c1 : cmpP a (jn a b) = -1 := by rw [e1]; exact cmp_under sa sb
              have c2 : cmpP (jn a b) (jn (jn a b) c) = -1 := by rw [e2]; exact cmp_under sx sc
              exact lies_main a b c (jn a b) (jn (jn a b) c) (jn b c) (underB a a).1 m w ha hb hc hm HA HB HC (fun w1 => join2_any a b w1 (by omega)) (fun w1 => join2_any (jn a b) c w1 (by omega)) (fun w1 => join2_any b c w1 (by omega)) (under_to _ _ _ _ w u1) (under_to _ _ _ _ w u2) (under_to _ _ _ _ w u3) (under_to _ _ _ _ w u4) (cmp_to _ _ _ m w (by omega) (by omega) c1 hm) (cmp_to _ _ _ m w (by omega) (by omega) c2 hm)
      · exact lies_longc a b c m w (by omega) (by omega) (by omega) hm
    · exact lies_longb a b c m w (by omega) (by omega) hm
  · exact lies_longa a b c m w (by omega) hm
end Go.Proofs.YthgbclgdaaaefaaDoor
