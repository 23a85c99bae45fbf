/- Walks: the law PathOrders. -/
import Derived.Test.YthgbclgdaaaefaaDoorWl
namespace Go.Proofs.YthgbclgdaaaefaaDoor
set_option linter.unusedVariables false
open Go.ChangeShapes Go.WideShapes Go.ChangeAt Go.RowKit

theorem cmpP_vals (a b : ByteArray) : cmpP a b = -1 ∨ cmpP a b = 0 ∨ cmpP a b = 1 := by
  unfold cmpP cmpL cmpO
  split
  · exact .inl rfl
  · split
    · exact .inr (.inl rfl)
    · exact .inr (.inr rfl)
theorem cmpP_neg (a b : ByteArray) : cmpP b a = - cmpP a b := bl_so.lex.neg _ _
theorem cmpP_zero (a b : ByteArray) : cmpP a b = 0 ↔ a = b := by
  unfold cmpP cmpL
  rw [bl_so.lex.zero]
  exact ⟨split_inj, fun h => by rw [h]⟩
theorem cmpP_le (a b c : ByteArray) (h1 : cmpP a b ≤ 0) (h2 : cmpP b c ≤ 0) : cmpP a c ≤ 0 := bl_so.lex.le _ _ _ h1 h2
theorem cmpP_ge (a b c : ByteArray) (h1 : 0 ≤ cmpP a b) (h2 : 0 ≤ cmpP b c) : 0 ≤ cmpP a c := by
  have e1 := cmpP_neg a b
  have e2 := cmpP_neg b c
  have e3 := cmpP_neg a c
  have := cmpP_le c b a (by omega) (by omega)
  omega
theorem cmp_to (a b : ByteArray) (x : Int) (m : Int) (w : World) (ha : a.size ≤ 8192) (hb : b.size ≤ 8192) (hx : cmpP a b = x) (hm : w.cell? ⟨0, 0, none⟩ = some (.int .i64 m)) : (∀ w1, Below w.heap.size w w1 → Calls Tryd.prog 23 #[.string a, .string b] w1 fun e w' => e = .returned (.int .i64 x) ∧ Below w1.heap.size w1 w') := by
  intro w1 hB
  have := pcmp_any a b m w1 (hm_below hm hB) (by omega) (by omega)
  rw [hx] at this
  exact this

set_option maxHeartbeats 1000000 in
theorem orders_mmm (a b c : ByteArray) (m : Int) (w : World) (ha : a.size ≤ 512) (hb : b.size ≤ 512) (hc : c.size ≤ 512) (hm : w.cell? ⟨0, 0, none⟩ = some (.int .i64 m))
    (hab : (a.toList == b.toList) = false) (HX : (∀ w1, Below w.heap.size w w1 → Calls Tryd.prog 23 #[.string a, .string b] w1 fun e w' => e = .returned (.int .i64 (-1)) ∧ Below w1.heap.size w1 w')) (HY : (∀ w1, Below w.heap.size w w1 → Calls Tryd.prog 23 #[.string b, .string c] w1 fun e w' => e = .returned (.int .i64 (-1)) ∧ Below w1.heap.size w1 w')) (HZ : (∀ w1, Below w.heap.size w w1 → Calls Tryd.prog 23 #[.string a, .string c] w1 fun e w' => e = .returned (.int .i64 (-1)) ∧ Below w1.heap.size w1 w')) (HR : (∀ w1, Below w.heap.size w w1 → Calls Tryd.prog 24 #[.string a, .string b] w1 fun e w' => e = .returned (.int .i64 (-1)) ∧ Below w1.heap.size w1 w')) (HN : (∀ w1, Below w.heap.size w w1 → Calls Tryd.prog 23 #[.string b, .string a] w1 fun e w' => e = .returned (.int .i64 1) ∧ Below w1.heap.size w1 w')) :
    Calls Tryd.prog 6 #[.string a, .string b, .string c] w (LawEnd w) := by
  have haI : (a.size : Int) ≤ 512 := by omega
  have hbI : (b.size : Int) ≤ 512 := by omega
  have hcI : (c.size : Int) ≤ 512 := by omega
  have H9 := Lib.hid (alive_any m w hm)
  have HX' := Lib.hid HX
  have HY' := Lib.hid HY
  have HZ' := Lib.hid HZ
  have HR' := Lib.hid HR
  have HN' := Lib.hid HN
  clear HX HY HZ HR HN
  go_enter Tryd.func6, Tryd.ntmps6
  go_wp2_with fail
  refine H9.out.mono ?_
  rintro e w1 ⟨rfl, hB⟩
  go_wp2_with fail
  refine (HX'.out _ hB).mono ?_
  rintro e w2 ⟨rfl, hB2⟩
  replace hB := hB.trans (hB2.mono hB.size)
  clear hB2
  go_wp2_with fail
  refine (HY'.out _ hB).mono ?_
  rintro e w3 ⟨rfl, hB2⟩
  replace hB := hB.trans (hB2.mono hB.size)
  clear hB2
  go_wp2_with fail
  refine (HZ'.out _ hB).mono ?_
  rintro e w4 ⟨rfl, hB2⟩
  replace hB := hB.trans (hB2.mono hB.size)
  clear hB2
  go_wp2_with fail
  refine (HR'.out _ hB).mono ?_
  rintro e w5 ⟨rfl, hB2⟩
  replace hB := hB.trans (hB2.mono hB.size)
  clear hB2
  go_wp2_with fail
  refine (HN'.out _ hB).mono ?_
  rintro e w6 ⟨rfl, hB2⟩
  replace hB := hB.trans (hB2.mono hB.size)
  clear hB2
  go_wp2_with fail
  go_ret
  exact ⟨rfl, hB⟩
set_option maxHeartbeats 1000000 in
theorem orders_mmo (a b c : ByteArray) (m : Int) (w : World) (ha : a.size ≤ 512) (hb : b.size ≤ 512) (hc : c.size ≤ 512) (hm : w.cell? ⟨0, 0, none⟩ = some (.int .i64 m))
    (hab : (a.toList == b.toList) = false) (HX : (∀ w1, Below w.heap.size w w1 → Calls Tryd.prog 23 #[.string a, .string b] w1 fun e w' => e = .returned (.int .i64 (-1)) ∧ Below w1.heap.size w1 w')) (HY : (∀ w1, Below w.heap.size w w1 → Calls Tryd.prog 23 #[.string b, .string c] w1 fun e w' => e = .returned (.int .i64 (-1)) ∧ Below w1.heap.size w1 w')) (HZ : (∀ w1, Below w.heap.size w w1 → Calls Tryd.prog 23 #[.string a, .string c] w1 fun e w' => e = .returned (.int .i64 0) ∧ Below w1.heap.size w1 w')) (HR : (∀ w1, Below w.heap.size w w1 → Calls Tryd.prog 24 #[.string a, .string b] w1 fun e w' => e = .returned (.int .i64 (-1)) ∧ Below w1.heap.size w1 w')) (HN : (∀ w1, Below w.heap.size w w1 → Calls Tryd.prog 23 #[.string b, .string a] w1 fun e w' => e = .returned (.int .i64 1) ∧ Below w1.heap.size w1 w')) :
    Calls Tryd.prog 6 #[.string a, .string b, .string c] w (LawEnd w) := by
  have haI : (a.size : Int) ≤ 512 := by omega
  have hbI : (b.size : Int) ≤ 512 := by omega
  have hcI : (c.size : Int) ≤ 512 := by omega
  have H9 := Lib.hid (alive_any m w hm)
  have HX' := Lib.hid HX
  have HY' := Lib.hid HY
  have HZ' := Lib.hid HZ
  have HR' := Lib.hid HR
  have HN' := Lib.hid HN
  clear HX HY HZ HR HN
  go_enter Tryd.func6, Tryd.ntmps6
  go_wp2_with fail
  refine H9.out.mono ?_
  rintro e w1 ⟨rfl, hB⟩
  go_wp2_with fail
  refine (HX'.out _ hB).mono ?_
  rintro e w2 ⟨rfl, hB2⟩
  replace hB := hB.trans (hB2.mono hB.size)
  clear hB2
  go_wp2_with fail
  refine (HY'.out _ hB).mono ?_
  rintro e w3 ⟨rfl, hB2⟩
  replace hB := hB.trans (hB2.mono hB.size)
  clear hB2
  go_wp2_with fail
  refine (HZ'.out _ hB).mono ?_
  rintro e w4 ⟨rfl, hB2⟩
  replace hB := hB.trans (hB2.mono hB.size)
  clear hB2
  go_wp2_with fail
  refine (HR'.out _ hB).mono ?_
  rintro e w5 ⟨rfl, hB2⟩
  replace hB := hB.trans (hB2.mono hB.size)
  clear hB2
  go_wp2_with fail
  refine (HN'.out _ hB).mono ?_
  rintro e w6 ⟨rfl, hB2⟩
  replace hB := hB.trans (hB2.mono hB.size)
  clear hB2
  go_wp2_with fail
  go_ret
  exact ⟨rfl, hB⟩
set_option maxHeartbeats 1000000 in
theorem orders_mom (a b c : ByteArray) (m : Int) (w : World) (ha : a.size ≤ 512) (hb : b.size ≤ 512) (hc : c.size ≤ 512) (hm : w.cell? ⟨0, 0, none⟩ = some (.int .i64 m))
    (hab : (a.toList == b.toList) = false) (HX : (∀ w1, Below w.heap.size w w1 → Calls Tryd.prog 23 #[.string a, .string b] w1 fun e w' => e = .returned (.int .i64 (-1)) ∧ Below w1.heap.size w1 w')) (HY : (∀ w1, Below w.heap.size w w1 → Calls Tryd.prog 23 #[.string b, .string c] w1 fun e w' => e = .returned (.int .i64 0) ∧ Below w1.heap.size w1 w')) (HZ : (∀ w1, Below w.heap.size w w1 → Calls Tryd.prog 23 #[.string a, .string c] w1 fun e w' => e = .returned (.int .i64 (-1)) ∧ Below w1.heap.size w1 w')) (HR : (∀ w1, Below w.heap.size w w1 → Calls Tryd.prog 24 #[.string a, .string b] w1 fun e w' => e = .returned (.int .i64 (-1)) ∧ Below w1.heap.size w1 w')) (HN : (∀ w1, Below w.heap.size w w1 → Calls Tryd.prog 23 #[.string b, .string a] w1 fun e w' => e = .returned (.int .i64 1) ∧ Below w1.heap.size w1 w')) :
    Calls Tryd.prog 6 #[.string a, .string b, .string c] w (LawEnd w) := by
  have haI : (a.size : Int) ≤ 512 := by omega
  have hbI : (b.size : Int) ≤ 512 := by omega
  have hcI : (c.size : Int) ≤ 512 := by omega
  have H9 := Lib.hid (alive_any m w hm)
  have HX' := Lib.hid HX
  have HY' := Lib.hid HY
  have HZ' := Lib.hid HZ
  have HR' := Lib.hid HR
  have HN' := Lib.hid HN
  clear HX HY HZ HR HN
  go_enter Tryd.func6, Tryd.ntmps6
  go_wp2_with fail
  refine H9.out.mono ?_
  rintro e w1 ⟨rfl, hB⟩
  go_wp2_with fail
  refine (HX'.out _ hB).mono ?_
  rintro e w2 ⟨rfl, hB2⟩
  replace hB := hB.trans (hB2.mono hB.size)
  clear hB2
  go_wp2_with fail
  refine (HY'.out _ hB).mono ?_
  rintro e w3 ⟨rfl, hB2⟩
  replace hB := hB.trans (hB2.mono hB.size)
  clear hB2
  go_wp2_with fail
  refine (HZ'.out _ hB).mono ?_
  rintro e w4 ⟨rfl, hB2⟩
  replace hB := hB.trans (hB2.mono hB.size)
  clear hB2
  go_wp2_with fail
  refine (HR'.out _ hB).mono ?_
  rintro e w5 ⟨rfl, hB2⟩
  replace hB := hB.trans (hB2.mono hB.size)
  clear hB2
  go_wp2_with fail
  refine (HN'.out _ hB).mono ?_
  rintro e w6 ⟨rfl, hB2⟩
  replace hB := hB.trans (hB2.mono hB.size)
  clear hB2
  go_wp2_with fail
  go_ret
  exact ⟨rfl, hB⟩
set_option maxHeartbeats 1000000 in
theorem orders_moo (a b c : ByteArray) (m : Int) (w : World) (ha : a.size ≤ 512) (hb : b.size ≤ 512) (hc : c.size ≤ 512) (hm : w.cell? ⟨0, 0, none⟩ = some (.int .i64 m))
    (hab : (a.toList == b.toList) = false) (HX : (∀ w1, Below w.heap.size w w1 → Calls Tryd.prog 23 #[.string a, .string b] w1 fun e w' => e = .returned (.int .i64 (-1)) ∧ Below w1.heap.size w1 w')) (HY : (∀ w1, Below w.heap.size w w1 → Calls Tryd.prog 23 #[.string b, .string c] w1 fun e w' => e = .returned (.int .i64 0) ∧ Below w1.heap.size w1 w')) (HZ : (∀ w1, Below w.heap.size w w1 → Calls Tryd.prog 23 #[.string a, .string c] w1 fun e w' => e = .returned (.int .i64 0) ∧ Below w1.heap.size w1 w')) (HR : (∀ w1, Below w.heap.size w w1 → Calls Tryd.prog 24 #[.string a, .string b] w1 fun e w' => e = .returned (.int .i64 (-1)) ∧ Below w1.heap.size w1 w')) (HN : (∀ w1, Below w.heap.size w w1 → Calls Tryd.prog 23 #[.string b, .string a] w1 fun e w' => e = .returned (.int .i64 1) ∧ Below w1.heap.size w1 w')) :
    Calls Tryd.prog 6 #[.string a, .string b, .string c] w (LawEnd w) := by
  have haI : (a.size : Int) ≤ 512 := by omega
  have hbI : (b.size : Int) ≤ 512 := by omega
  have hcI : (c.size : Int) ≤ 512 := by omega
  have H9 := Lib.hid (alive_any m w hm)
  have HX' := Lib.hid HX
  have HY' := Lib.hid HY
  have HZ' := Lib.hid HZ
  have HR' := Lib.hid HR
  have HN' := Lib.hid HN
  clear HX HY HZ HR HN
  go_enter Tryd.func6, Tryd.ntmps6
  go_wp2_with fail
  refine H9.out.mono ?_
  rintro e w1 ⟨rfl, hB⟩
  go_wp2_with fail
  refine (HX'.out _ hB).mono ?_
  rintro e w2 ⟨rfl, hB2⟩
  replace hB := hB.trans (hB2.mono hB.size)
  clear hB2
  go_wp2_with fail
  refine (HY'.out _ hB).mono ?_
  rintro e w3 ⟨rfl, hB2⟩
  replace hB := hB.trans (hB2.mono hB.size)
  clear hB2
  go_wp2_with fail
  refine (HZ'.out _ hB).mono ?_
  rintro e w4 ⟨rfl, hB2⟩
  replace hB := hB.trans (hB2.mono hB.size)
  clear hB2
  go_wp2_with fail
  refine (HR'.out _ hB).mono ?_
  rintro e w5 ⟨rfl, hB2⟩
  replace hB := hB.trans (hB2.mono hB.size)
  clear hB2
  go_wp2_with fail
  refine (HN'.out _ hB).mono ?_
  rintro e w6 ⟨rfl, hB2⟩
  replace hB := hB.trans (hB2.mono hB.size)
  clear hB2
  go_wp2_with fail
  go_ret
  exact ⟨rfl, hB⟩
set_option maxHeartbeats 1000000 in
theorem orders_mpm (a b c : ByteArray) (m : Int) (w : World) (ha : a.size ≤ 512) (hb : b.size ≤ 512) (hc : c.size ≤ 512) (hm : w.cell? ⟨0, 0, none⟩ = some (.int .i64 m))
    (hab : (a.toList == b.toList) = false) (HX : (∀ w1, Below w.heap.size w w1 → Calls Tryd.prog 23 #[.string a, .string b] w1 fun e w' => e = .returned (.int .i64 (-1)) ∧ Below w1.heap.size w1 w')) (HY : (∀ w1, Below w.heap.size w w1 → Calls Tryd.prog 23 #[.string b, .string c] w1 fun e w' => e = .returned (.int .i64 1) ∧ Below w1.heap.size w1 w')) (HZ : (∀ w1, Below w.heap.size w w1 → Calls Tryd.prog 23 #[.string a, .string c] w1 fun e w' => e = .returned (.int .i64 (-1)) ∧ Below w1.heap.size w1 w')) (HR : (∀ w1, Below w.heap.size w w1 → Calls Tryd.prog 24 #[.string a, .string b] w1 fun e w' => e = .returned (.int .i64 (-1)) ∧ Below w1.heap.size w1 w')) (HN : (∀ w1, Below w.heap.size w w1 → Calls Tryd.prog 23 #[.string b, .string a] w1 fun e w' => e = .returned (.int .i64 1) ∧ Below w1.heap.size w1 w')) :
    Calls Tryd.prog 6 #[.string a, .string b, .string c] w (LawEnd w) := by
  have haI : (a.size : Int) ≤ 512 := by omega
  have hbI : (b.size : Int) ≤ 512 := by omega
  have hcI : (c.size : Int) ≤ 512 := by omega
  have H9 := Lib.hid (alive_any m w hm)
  have HX' := Lib.hid HX
  have HY' := Lib.hid HY
  have HZ' := Lib.hid HZ
  have HR' := Lib.hid HR
  have HN' := Lib.hid HN
  clear HX HY HZ HR HN
  go_enter Tryd.func6, Tryd.ntmps6
  go_wp2_with fail
  refine H9.out.mono ?_
  rintro e w1 ⟨rfl, hB⟩
  go_wp2_with fail
  refine (HX'.out _ hB).mono ?_
  rintro e w2 ⟨rfl, hB2⟩
  replace hB := hB.trans (hB2.mono hB.size)
  clear hB2
  go_wp2_with fail
  refine (HY'.out _ hB).mono ?_
  rintro e w3 ⟨rfl, hB2⟩
  replace hB := hB.trans (hB2.mono hB.size)
  clear hB2
  go_wp2_with fail
  refine (HZ'.out _ hB).mono ?_
  rintro e w4 ⟨rfl, hB2⟩
  replace hB := hB.trans (hB2.mono hB.size)
  clear hB2
  go_wp2_with fail
  refine (HR'.out _ hB).mono ?_
  rintro e w5 ⟨rfl, hB2⟩
  replace hB := hB.trans (hB2.mono hB.size)
  clear hB2
  go_wp2_with fail
  refine (HN'.out _ hB).mono ?_
  rintro e w6 ⟨rfl, hB2⟩
  replace hB := hB.trans (hB2.mono hB.size)
  clear hB2
  go_wp2_with fail
  go_ret
  exact ⟨rfl, hB⟩
set_option maxHeartbeats 1000000 in
theorem orders_mpo (a b c : ByteArray) (m : Int) (w : World) (ha : a.size ≤ 512) (hb : b.size ≤ 512) (hc : c.size ≤ 512) (hm : w.cell? ⟨0, 0, none⟩ = some (.int .i64 m))
    (hab : (a.toList == b.toList) = false) (HX : (∀ w1, Below w.heap.size w w1 → Calls Tryd.prog 23 #[.string a, .string b] w1 fun e w' => e = .returned (.int .i64 (-1)) ∧ Below w1.heap.size w1 w')) (HY : (∀ w1, Below w.heap.size w w1 → Calls Tryd.prog 23 #[.string b, .string c] w1 fun e w' => e = .returned (.int .i64 1) ∧ Below w1.heap.size w1 w')) (HZ : (∀ w1, Below w.heap.size w w1 → Calls Tryd.prog 23 #[.string a, .string c] w1 fun e w' => e = .returned (.int .i64 0) ∧ Below w1.heap.size w1 w')) (HR : (∀ w1, Below w.heap.size w w1 → Calls Tryd.prog 24 #[.string a, .string b] w1 fun e w' => e = .returned (.int .i64 (-1)) ∧ Below w1.heap.size w1 w')) (HN : (∀ w1, Below w.heap.size w w1 → Calls Tryd.prog 23 #[.string b, .string a] w1 fun e w' => e = .returned (.int .i64 1) ∧ Below w1.heap.size w1 w')) :
    Calls Tryd.prog 6 #[.string a, .string b, .string c] w (LawEnd w) := by
  have haI : (a.size : Int) ≤ 512 := by omega
  have hbI : (b.size : Int) ≤ 512 := by omega
  have hcI : (c.size : Int) ≤ 512 := by omega
  have H9 := Lib.hid (alive_any m w hm)
  have HX' := Lib.hid HX
  have HY' := Lib.hid HY
  have HZ' := Lib.hid HZ
  have HR' := Lib.hid HR
  have HN' := Lib.hid HN
  clear HX HY HZ HR HN
  go_enter Tryd.func6, Tryd.ntmps6
  go_wp2_with fail
  refine H9.out.mono ?_
  rintro e w1 ⟨rfl, hB⟩
  go_wp2_with fail
  refine (HX'.out _ hB).mono ?_
  rintro e w2 ⟨rfl, hB2⟩
  replace hB := hB.trans (hB2.mono hB.size)
  clear hB2
  go_wp2_with fail
  refine (HY'.out _ hB).mono ?_
  rintro e w3 ⟨rfl, hB2⟩
  replace hB := hB.trans (hB2.mono hB.size)
  clear hB2
  go_wp2_with fail
  refine (HZ'.out _ hB).mono ?_
  rintro e w4 ⟨rfl, hB2⟩
  replace hB := hB.trans (hB2.mono hB.size)
  clear hB2
  go_wp2_with fail
  refine (HR'.out _ hB).mono ?_
  rintro e w5 ⟨rfl, hB2⟩
  replace hB := hB.trans (hB2.mono hB.size)
  clear hB2
  go_wp2_with fail
  refine (HN'.out _ hB).mono ?_
  rintro e w6 ⟨rfl, hB2⟩
  replace hB := hB.trans (hB2.mono hB.size)
  clear hB2
  go_wp2_with fail
  go_ret
  exact ⟨rfl, hB⟩
set_option maxHeartbeats 1000000 in
theorem orders_mpp (a b c : ByteArray) (m : Int) (w : World) (ha : a.size ≤ 512) (hb : b.size ≤ 512) (hc : c.size ≤ 512) (hm : w.cell? ⟨0, 0, none⟩ = some (.int .i64 m))
    (hab : (a.toList == b.toList) = false) (HX : (∀ w1, Below w.heap.size w w1 → Calls Tryd.prog 23 #[.string a, .string b] w1 fun e w' => e = .returned (.int .i64 (-1)) ∧ Below w1.heap.size w1 w')) (HY : (∀ w1, Below w.heap.size w w1 → Calls Tryd.prog 23 #[.string b, .string c] w1 fun e w' => e = .returned (.int .i64 1) ∧ Below w1.heap.size w1 w')) (HZ : (∀ w1, Below w.heap.size w w1 → Calls Tryd.prog 23 #[.string a, .string c] w1 fun e w' => e = .returned (.int .i64 1) ∧ Below w1.heap.size w1 w')) (HR : (∀ w1, Below w.heap.size w w1 → Calls Tryd.prog 24 #[.string a, .string b] w1 fun e w' => e = .returned (.int .i64 (-1)) ∧ Below w1.heap.size w1 w')) (HN : (∀ w1, Below w.heap.size w w1 → Calls Tryd.prog 23 #[.string b, .string a] w1 fun e w' => e = .returned (.int .i64 1) ∧ Below w1.heap.size w1 w')) :
    Calls Tryd.prog 6 #[.string a, .string b, .string c] w (LawEnd w) := by
  have haI : (a.size : Int) ≤ 512 := by omega
  have hbI : (b.size : Int) ≤ 512 := by omega
  have hcI : (c.size : Int) ≤ 512 := by omega
  have H9 := Lib.hid (alive_any m w hm)
  have HX' := Lib.hid HX
  have HY' := Lib.hid HY
  have HZ' := Lib.hid HZ
  have HR' := Lib.hid HR
  have HN' := Lib.hid HN
  clear HX HY HZ HR HN
  go_enter Tryd.func6, Tryd.ntmps6
  go_wp2_with fail
  refine H9.out.mono ?_
  rintro e w1 ⟨rfl, hB⟩
  go_wp2_with fail
  refine (HX'.out _ hB).mono ?_
  rintro e w2 ⟨rfl, hB2⟩
  replace hB := hB.trans (hB2.mono hB.size)
  clear hB2
  go_wp2_with fail
  refine (HY'.out _ hB).mono ?_
  rintro e w3 ⟨rfl, hB2⟩
  replace hB := hB.trans (hB2.mono hB.size)
  clear hB2
  go_wp2_with fail
  refine (HZ'.out _ hB).mono ?_
  rintro e w4 ⟨rfl, hB2⟩
  replace hB := hB.trans (hB2.mono hB.size)
  clear hB2
  go_wp2_with fail
  refine (HR'.out _ hB).mono ?_
  rintro e w5 ⟨rfl, hB2⟩
  replace hB := hB.trans (hB2.mono hB.size)
  clear hB2
  go_wp2_with fail
  refine (HN'.out _ hB).mono ?_
  rintro e w6 ⟨rfl, hB2⟩
  replace hB := hB.trans (hB2.mono hB.size)
  clear hB2
  go_wp2_with fail
  go_ret
  exact ⟨rfl, hB⟩
set_option maxHeartbeats 1000000 in
theorem orders_omm (a b c : ByteArray) (m : Int) (w : World) (ha : a.size ≤ 512) (hb : b.size ≤ 512) (hc : c.size ≤ 512) (hm : w.cell? ⟨0, 0, none⟩ = some (.int .i64 m))
    (hab : (a.toList == b.toList) = true) (HX : (∀ w1, Below w.heap.size w w1 → Calls Tryd.prog 23 #[.string a, .string b] w1 fun e w' => e = .returned (.int .i64 0) ∧ Below w1.heap.size w1 w')) (HY : (∀ w1, Below w.heap.size w w1 → Calls Tryd.prog 23 #[.string b, .string c] w1 fun e w' => e = .returned (.int .i64 (-1)) ∧ Below w1.heap.size w1 w')) (HZ : (∀ w1, Below w.heap.size w w1 → Calls Tryd.prog 23 #[.string a, .string c] w1 fun e w' => e = .returned (.int .i64 (-1)) ∧ Below w1.heap.size w1 w')) (HR : (∀ w1, Below w.heap.size w w1 → Calls Tryd.prog 24 #[.string a, .string b] w1 fun e w' => e = .returned (.int .i64 0) ∧ Below w1.heap.size w1 w')) (HN : (∀ w1, Below w.heap.size w w1 → Calls Tryd.prog 23 #[.string b, .string a] w1 fun e w' => e = .returned (.int .i64 0) ∧ Below w1.heap.size w1 w')) :
    Calls Tryd.prog 6 #[.string a, .string b, .string c] w (LawEnd w) := by
  have haI : (a.size : Int) ≤ 512 := by omega
  have hbI : (b.size : Int) ≤ 512 := by omega
  have hcI : (c.size : Int) ≤ 512 := by omega
  have H9 := Lib.hid (alive_any m w hm)
  have HX' := Lib.hid HX
  have HY' := Lib.hid HY
  have HZ' := Lib.hid HZ
  have HR' := Lib.hid HR
  have HN' := Lib.hid HN
  clear HX HY HZ HR HN
  go_enter Tryd.func6, Tryd.ntmps6
  go_wp2_with fail
  refine H9.out.mono ?_
  rintro e w1 ⟨rfl, hB⟩
  go_wp2_with fail
  refine (HX'.out _ hB).mono ?_
  rintro e w2 ⟨rfl, hB2⟩
  replace hB := hB.trans (hB2.mono hB.size)
  clear hB2
  go_wp2_with fail
  refine (HY'.out _ hB).mono ?_
  rintro e w3 ⟨rfl, hB2⟩
  replace hB := hB.trans (hB2.mono hB.size)
  clear hB2
  go_wp2_with fail
  refine (HZ'.out _ hB).mono ?_
  rintro e w4 ⟨rfl, hB2⟩
  replace hB := hB.trans (hB2.mono hB.size)
  clear hB2
  go_wp2_with fail
  refine (HR'.out _ hB).mono ?_
  rintro e w5 ⟨rfl, hB2⟩
  replace hB := hB.trans (hB2.mono hB.size)
  clear hB2
  go_wp2_with fail
  refine (HN'.out _ hB).mono ?_
  rintro e w6 ⟨rfl, hB2⟩
  replace hB := hB.trans (hB2.mono hB.size)
  clear hB2
  go_wp2_with fail
  go_ret
  exact ⟨rfl, hB⟩
set_option maxHeartbeats 1000000 in
theorem orders_omo (a b c : ByteArray) (m : Int) (w : World) (ha : a.size ≤ 512) (hb : b.size ≤ 512) (hc : c.size ≤ 512) (hm : w.cell? ⟨0, 0, none⟩ = some (.int .i64 m))
    (hab : (a.toList == b.toList) = true) (HX : (∀ w1, Below w.heap.size w w1 → Calls Tryd.prog 23 #[.string a, .string b] w1 fun e w' => e = .returned (.int .i64 0) ∧ Below w1.heap.size w1 w')) (HY : (∀ w1, Below w.heap.size w w1 → Calls Tryd.prog 23 #[.string b, .string c] w1 fun e w' => e = .returned (.int .i64 (-1)) ∧ Below w1.heap.size w1 w')) (HZ : (∀ w1, Below w.heap.size w w1 → Calls Tryd.prog 23 #[.string a, .string c] w1 fun e w' => e = .returned (.int .i64 0) ∧ Below w1.heap.size w1 w')) (HR : (∀ w1, Below w.heap.size w w1 → Calls Tryd.prog 24 #[.string a, .string b] w1 fun e w' => e = .returned (.int .i64 0) ∧ Below w1.heap.size w1 w')) (HN : (∀ w1, Below w.heap.size w w1 → Calls Tryd.prog 23 #[.string b, .string a] w1 fun e w' => e = .returned (.int .i64 0) ∧ Below w1.heap.size w1 w')) :
    Calls Tryd.prog 6 #[.string a, .string b, .string c] w (LawEnd w) := by
  have haI : (a.size : Int) ≤ 512 := by omega
  have hbI : (b.size : Int) ≤ 512 := by omega
  have hcI : (c.size : Int) ≤ 512 := by omega
  have H9 := Lib.hid (alive_any m w hm)
  have HX' := Lib.hid HX
  have HY' := Lib.hid HY
  have HZ' := Lib.hid HZ
  have HR' := Lib.hid HR
  have HN' := Lib.hid HN
  clear HX HY HZ HR HN
  go_enter Tryd.func6, Tryd.ntmps6
  go_wp2_with fail
  refine H9.out.mono ?_
  rintro e w1 ⟨rfl, hB⟩
  go_wp2_with fail
  refine (HX'.out _ hB).mono ?_
  rintro e w2 ⟨rfl, hB2⟩
  replace hB := hB.trans (hB2.mono hB.size)
  clear hB2
  go_wp2_with fail
  refine (HY'.out _ hB).mono ?_
  rintro e w3 ⟨rfl, hB2⟩
  replace hB := hB.trans (hB2.mono hB.size)
  clear hB2
  go_wp2_with fail
  refine (HZ'.out _ hB).mono ?_
  rintro e w4 ⟨rfl, hB2⟩
  replace hB := hB.trans (hB2.mono hB.size)
  clear hB2
  go_wp2_with fail
  refine (HR'.out _ hB).mono ?_
  rintro e w5 ⟨rfl, hB2⟩
  replace hB := hB.trans (hB2.mono hB.size)
  clear hB2
  go_wp2_with fail
  refine (HN'.out _ hB).mono ?_
  rintro e w6 ⟨rfl, hB2⟩
  replace hB := hB.trans (hB2.mono hB.size)
  clear hB2
  go_wp2_with fail
  go_ret
  exact ⟨rfl, hB⟩
set_option maxHeartbeats 1000000 in
theorem orders_ooo (a b c : ByteArray) (m : Int) (w : World) (ha : a.size ≤ 512) (hb : b.size ≤ 512) (hc : c.size ≤ 512) (hm : w.cell? ⟨0, 0, none⟩ = some (.int .i64 m))
    (hab : (a.toList == b.toList) = true) (HX : (∀ w1, Below w.heap.size w w1 → Calls Tryd.prog 23 #[.string a, .string b] w1 fun e w' => e = .returned (.int .i64 0) ∧ Below w1.heap.size w1 w')) (HY : (∀ w1, Below w.heap.size w w1 → Calls Tryd.prog 23 #[.string b, .string c] w1 fun e w' => e = .returned (.int .i64 0) ∧ Below w1.heap.size w1 w')) (HZ : (∀ w1, Below w.heap.size w w1 → Calls Tryd.prog 23 #[.string a, .string c] w1 fun e w' => e = .returned (.int .i64 0) ∧ Below w1.heap.size w1 w')) (HR : (∀ w1, Below w.heap.size w w1 → Calls Tryd.prog 24 #[.string a, .string b] w1 fun e w' => e = .returned (.int .i64 0) ∧ Below w1.heap.size w1 w')) (HN : (∀ w1, Below w.heap.size w w1 → Calls Tryd.prog 23 #[.string b, .string a] w1 fun e w' => e = .returned (.int .i64 0) ∧ Below w1.heap.size w1 w')) :
    Calls Tryd.prog 6 #[.string a, .string b, .string c] w (LawEnd w) := by
  have haI : (a.size : Int) ≤ 512 := by omega
  have hbI : (b.size : Int) ≤ 512 := by omega
  have hcI : (c.size : Int) ≤ 512 := by omega
  have H9 := Lib.hid (alive_any m w hm)
  have HX' := Lib.hid HX
  have HY' := Lib.hid HY
  have HZ' := Lib.hid HZ
  have HR' := Lib.hid HR
  have HN' := Lib.hid HN
  clear HX HY HZ HR HN
  go_enter Tryd.func6, Tryd.ntmps6
  go_wp2_with fail
  refine H9.out.mono ?_
  rintro e w1 ⟨rfl, hB⟩
  go_wp2_with fail
  refine (HX'.out _ hB).mono ?_
  rintro e w2 ⟨rfl, hB2⟩
  replace hB := hB.trans (hB2.mono hB.size)
  clear hB2
  go_wp2_with fail
  refine (HY'.out _ hB).mono ?_
  rintro e w3 ⟨rfl, hB2⟩
  replace hB := hB.trans (hB2.mono hB.size)
  clear hB2
  go_wp2_with fail
  refine (HZ'.out _ hB).mono ?_
  rintro e w4 ⟨rfl, hB2⟩
  replace hB := hB.trans (hB2.mono hB.size)
  clear hB2
  go_wp2_with fail
  refine (HR'.out _ hB).mono ?_
  rintro e w5 ⟨rfl, hB2⟩
  replace hB := hB.trans (hB2.mono hB.size)
  clear hB2
  go_wp2_with fail
  refine (HN'.out _ hB).mono ?_
  rintro e w6 ⟨rfl, hB2⟩
  replace hB := hB.trans (hB2.mono hB.size)
  clear hB2
  go_wp2_with fail
  go_ret
  exact ⟨rfl, hB⟩
set_option maxHeartbeats 1000000 in
theorem orders_opo (a b c : ByteArray) (m : Int) (w : World) (ha : a.size ≤ 512) (hb : b.size ≤ 512) (hc : c.size ≤ 512) (hm : w.cell? ⟨0, 0, none⟩ = some (.int .i64 m))
    (hab : (a.toList == b.toList) = true) (HX : (∀ w1, Below w.heap.size w w1 → Calls Tryd.prog 23 #[.string a, .string b] w1 fun e w' => e = .returned (.int .i64 0) ∧ Below w1.heap.size w1 w')) (HY : (∀ w1, Below w.heap.size w w1 → Calls Tryd.prog 23 #[.string b, .string c] w1 fun e w' => e = .returned (.int .i64 1) ∧ Below w1.heap.size w1 w')) (HZ : (∀ w1, Below w.heap.size w w1 → Calls Tryd.prog 23 #[.string a, .string c] w1 fun e w' => e = .returned (.int .i64 0) ∧ Below w1.heap.size w1 w')) (HR : (∀ w1, Below w.heap.size w w1 → Calls Tryd.prog 24 #[.string a, .string b] w1 fun e w' => e = .returned (.int .i64 0) ∧ Below w1.heap.size w1 w')) (HN : (∀ w1, Below w.heap.size w w1 → Calls Tryd.prog 23 #[.string b, .string a] w1 fun e w' => e = .returned (.int .i64 0) ∧ Below w1.heap.size w1 w')) :
    Calls Tryd.prog 6 #[.string a, .string b, .string c] w (LawEnd w) := by
  have haI : (a.size : Int) ≤ 512 := by omega
  have hbI : (b.size : Int) ≤ 512 := by omega
  have hcI : (c.size : Int) ≤ 512 := by omega
  have H9 := Lib.hid (alive_any m w hm)
  have HX' := Lib.hid HX
  have HY' := Lib.hid HY
  have HZ' := Lib.hid HZ
  have HR' := Lib.hid HR
  have HN' := Lib.hid HN
  clear HX HY HZ HR HN
  go_enter Tryd.func6, Tryd.ntmps6
  go_wp2_with fail
  refine H9.out.mono ?_
  rintro e w1 ⟨rfl, hB⟩
  go_wp2_with fail
  refine (HX'.out _ hB).mono ?_
  rintro e w2 ⟨rfl, hB2⟩
  replace hB := hB.trans (hB2.mono hB.size)
  clear hB2
  go_wp2_with fail
  refine (HY'.out _ hB).mono ?_
  rintro e w3 ⟨rfl, hB2⟩
  replace hB := hB.trans (hB2.mono hB.size)
  clear hB2
  go_wp2_with fail
  refine (HZ'.out _ hB).mono ?_
  rintro e w4 ⟨rfl, hB2⟩
  replace hB := hB.trans (hB2.mono hB.size)
  clear hB2
  go_wp2_with fail
  refine (HR'.out _ hB).mono ?_
  rintro e w5 ⟨rfl, hB2⟩
  replace hB := hB.trans (hB2.mono hB.size)
  clear hB2
  go_wp2_with fail
  refine (HN'.out _ hB).mono ?_
  rintro e w6 ⟨rfl, hB2⟩
  replace hB := hB.trans (hB2.mono hB.size)
  clear hB2
  go_wp2_with fail
  go_ret
  exact ⟨rfl, hB⟩
set_option maxHeartbeats 1000000 in
theorem orders_opp (a b c : ByteArray) (m : Int) (w : World) (ha : a.size ≤ 512) (hb : b.size ≤ 512) (hc : c.size ≤ 512) (hm : w.cell? ⟨0, 0, none⟩ = some (.int .i64 m))
    (hab : (a.toList == b.toList) = true) (HX : (∀ w1, Below w.heap.size w w1 → Calls Tryd.prog 23 #[.string a, .string b] w1 fun e w' => e = .returned (.int .i64 0) ∧ Below w1.heap.size w1 w')) (HY : (∀ w1, Below w.heap.size w w1 → Calls Tryd.prog 23 #[.string b, .string c] w1 fun e w' => e = .returned (.int .i64 1) ∧ Below w1.heap.size w1 w')) (HZ : (∀ w1, Below w.heap.size w w1 → Calls Tryd.prog 23 #[.string a, .string c] w1 fun e w' => e = .returned (.int .i64 1) ∧ Below w1.heap.size w1 w')) (HR : (∀ w1, Below w.heap.size w w1 → Calls Tryd.prog 24 #[.string a, .string b] w1 fun e w' => e = .returned (.int .i64 0) ∧ Below w1.heap.size w1 w')) (HN : (∀ w1, Below w.heap.size w w1 → Calls Tryd.prog 23 #[.string b, .string a] w1 fun e w' => e = .returned (.int .i64 0) ∧ Below w1.heap.size w1 w')) :
    Calls Tryd.prog 6 #[.string a, .string b, .string c] w (LawEnd w) := by
  have haI : (a.size : Int) ≤ 512 := by omega
  have hbI : (b.size : Int) ≤ 512 := by omega
  have hcI : (c.size : Int) ≤ 512 := by omega
  have H9 := Lib.hid (alive_any m w hm)
  have HX' := Lib.hid HX
  have HY' := Lib.hid HY
  have HZ' := Lib.hid HZ
  have HR' := Lib.hid HR
  have HN' := Lib.hid HN
  clear HX HY HZ HR HN
  go_enter Tryd.func6, Tryd.ntmps6
  go_wp2_with fail
  refine H9.out.mono ?_
  rintro e w1 ⟨rfl, hB⟩
  go_wp2_with fail
  refine (HX'.out _ hB).mono ?_
  rintro e w2 ⟨rfl, hB2⟩
  replace hB := hB.trans (hB2.mono hB.size)
  clear hB2
  go_wp2_with fail
  refine (HY'.out _ hB).mono ?_
  rintro e w3 ⟨rfl, hB2⟩
  replace hB := hB.trans (hB2.mono hB.size)
  clear hB2
  go_wp2_with fail
  refine (HZ'.out _ hB).mono ?_
  rintro e w4 ⟨rfl, hB2⟩
  replace hB := hB.trans (hB2.mono hB.size)
  clear hB2
  go_wp2_with fail
  refine (HR'.out _ hB).mono ?_
  rintro e w5 ⟨rfl, hB2⟩
  replace hB := hB.trans (hB2.mono hB.size)
  clear hB2
  go_wp2_with fail
  refine (HN'.out _ hB).mono ?_
  rintro e w6 ⟨rfl, hB2⟩
  replace hB := hB.trans (hB2.mono hB.size)
  clear hB2
  go_wp2_with fail
  go_ret
  exact ⟨rfl, hB⟩
set_option maxHeartbeats 1000000 in
theorem orders_pmm (a b c : ByteArray) (m : Int) (w : World) (ha : a.size ≤ 512) (hb : b.size ≤ 512) (hc : c.size ≤ 512) (hm : w.cell? ⟨0, 0, none⟩ = some (.int .i64 m))
    (hab : (a.toList == b.toList) = false) (HX : (∀ w1, Below w.heap.size w w1 → Calls Tryd.prog 23 #[.string a, .string b] w1 fun e w' => e = .returned (.int .i64 1) ∧ Below w1.heap.size w1 w')) (HY : (∀ w1, Below w.heap.size w w1 → Calls Tryd.prog 23 #[.string b, .string c] w1 fun e w' => e = .returned (.int .i64 (-1)) ∧ Below w1.heap.size w1 w')) (HZ : (∀ w1, Below w.heap.size w w1 → Calls Tryd.prog 23 #[.string a, .string c] w1 fun e w' => e = .returned (.int .i64 (-1)) ∧ Below w1.heap.size w1 w')) (HR : (∀ w1, Below w.heap.size w w1 → Calls Tryd.prog 24 #[.string a, .string b] w1 fun e w' => e = .returned (.int .i64 1) ∧ Below w1.heap.size w1 w')) (HN : (∀ w1, Below w.heap.size w w1 → Calls Tryd.prog 23 #[.string b, .string a] w1 fun e w' => e = .returned (.int .i64 (-1)) ∧ Below w1.heap.size w1 w')) :
    Calls Tryd.prog 6 #[.string a, .string b, .string c] w (LawEnd w) := by
  have haI : (a.size : Int) ≤ 512 := by omega
  have hbI : (b.size : Int) ≤ 512 := by omega
  have hcI : (c.size : Int) ≤ 512 := by omega
  have H9 := Lib.hid (alive_any m w hm)
  have HX' := Lib.hid HX
  have HY' := Lib.hid HY
  have HZ' := Lib.hid HZ
  have HR' := Lib.hid HR
  have HN' := Lib.hid HN
  clear HX HY HZ HR HN
  go_enter Tryd.func6, Tryd.ntmps6
  go_wp2_with fail
  refine H9.out.mono ?_
  rintro e w1 ⟨rfl, hB⟩
  go_wp2_with fail
  refine (HX'.out _ hB).mono ?_
  rintro e w2 ⟨rfl, hB2⟩
  replace hB := hB.trans (hB2.mono hB.size)
  clear hB2
  go_wp2_with fail
  refine (HY'.out _ hB).mono ?_
  rintro e w3 ⟨rfl, hB2⟩
  replace hB := hB.trans (hB2.mono hB.size)
  clear hB2
  go_wp2_with fail
  refine (HZ'.out _ hB).mono ?_
  rintro e w4 ⟨rfl, hB2⟩
  replace hB := hB.trans (hB2.mono hB.size)
  clear hB2
  go_wp2_with fail
  refine (HR'.out _ hB).mono ?_
  rintro e w5 ⟨rfl, hB2⟩
  replace hB := hB.trans (hB2.mono hB.size)
  clear hB2
  go_wp2_with fail
  refine (HN'.out _ hB).mono ?_
  rintro e w6 ⟨rfl, hB2⟩
  replace hB := hB.trans (hB2.mono hB.size)
  clear hB2
  go_wp2_with fail
  go_ret
  exact ⟨rfl, hB⟩
set_option maxHeartbeats 1000000 in
theorem orders_pmo (a b c : ByteArray) (m : Int) (w : World) (ha : a.size ≤ 512) (hb : b.size ≤ 512) (hc : c.size ≤ 512) (hm : w.cell? ⟨0, 0, none⟩ = some (.int .i64 m))
    (hab : (a.toList == b.toList) = false) (HX : (∀ w1, Below w.heap.size w w1 → Calls Tryd.prog 23 #[.string a, .string b] w1 fun e w' => e = .returned (.int .i64 1) ∧ Below w1.heap.size w1 w')) (HY : (∀ w1, Below w.heap.size w w1 → Calls Tryd.prog 23 #[.string b, .string c] w1 fun e w' => e = .returned (.int .i64 (-1)) ∧ Below w1.heap.size w1 w')) (HZ : (∀ w1, Below w.heap.size w w1 → Calls Tryd.prog 23 #[.string a, .string c] w1 fun e w' => e = .returned (.int .i64 0) ∧ Below w1.heap.size w1 w')) (HR : (∀ w1, Below w.heap.size w w1 → Calls Tryd.prog 24 #[.string a, .string b] w1 fun e w' => e = .returned (.int .i64 1) ∧ Below w1.heap.size w1 w')) (HN : (∀ w1, Below w.heap.size w w1 → Calls Tryd.prog 23 #[.string b, .string a] w1 fun e w' => e = .returned (.int .i64 (-1)) ∧ Below w1.heap.size w1 w')) :
    Calls Tryd.prog 6 #[.string a, .string b, .string c] w (LawEnd w) := by
  have haI : (a.size : Int) ≤ 512 := by omega
  have hbI : (b.size : Int) ≤ 512 := by omega
  have hcI : (c.size : Int) ≤ 512 := by omega
  have H9 := Lib.hid (alive_any m w hm)
  have HX' := Lib.hid HX
  have HY' := Lib.hid HY
  have HZ' := Lib.hid HZ
  have HR' := Lib.hid HR
  have HN' := Lib.hid HN
  clear HX HY HZ HR HN
  go_enter Tryd.func6, Tryd.ntmps6
  go_wp2_with fail
  refine H9.out.mono ?_
  rintro e w1 ⟨rfl, hB⟩
  go_wp2_with fail
  refine (HX'.out _ hB).mono ?_
  rintro e w2 ⟨rfl, hB2⟩
  replace hB := hB.trans (hB2.mono hB.size)
  clear hB2
  go_wp2_with fail
  refine (HY'.out _ hB).mono ?_
  rintro e w3 ⟨rfl, hB2⟩
  replace hB := hB.trans (hB2.mono hB.size)
  clear hB2
  go_wp2_with fail
  refine (HZ'.out _ hB).mono ?_
  rintro e w4 ⟨rfl, hB2⟩
  replace hB := hB.trans (hB2.mono hB.size)
  clear hB2
  go_wp2_with fail
  refine (HR'.out _ hB).mono ?_
  rintro e w5 ⟨rfl, hB2⟩
  replace hB := hB.trans (hB2.mono hB.size)
  clear hB2
  go_wp2_with fail
  refine (HN'.out _ hB).mono ?_
  rintro e w6 ⟨rfl, hB2⟩
  replace hB := hB.trans (hB2.mono hB.size)
  clear hB2
  go_wp2_with fail
  go_ret
  exact ⟨rfl, hB⟩
set_option maxHeartbeats 1000000 in
theorem orders_pmp (a b c : ByteArray) (m : Int) (w : World) (ha : a.size ≤ 512) (hb : b.size ≤ 512) (hc : c.size ≤ 512) (hm : w.cell? ⟨0, 0, none⟩ = some (.int .i64 m))
    (hab : (a.toList == b.toList) = false) (HX : (∀ w1, Below w.heap.size w w1 → Calls Tryd.prog 23 #[.string a, .string b] w1 fun e w' => e = .returned (.int .i64 1) ∧ Below w1.heap.size w1 w')) (HY : (∀ w1, Below w.heap.size w w1 → Calls Tryd.prog 23 #[.string b, .string c] w1 fun e w' => e = .returned (.int .i64 (-1)) ∧ Below w1.heap.size w1 w')) (HZ : (∀ w1, Below w.heap.size w w1 → Calls Tryd.prog 23 #[.string a, .string c] w1 fun e w' => e = .returned (.int .i64 1) ∧ Below w1.heap.size w1 w')) (HR : (∀ w1, Below w.heap.size w w1 → Calls Tryd.prog 24 #[.string a, .string b] w1 fun e w' => e = .returned (.int .i64 1) ∧ Below w1.heap.size w1 w')) (HN : (∀ w1, Below w.heap.size w w1 → Calls Tryd.prog 23 #[.string b, .string a] w1 fun e w' => e = .returned (.int .i64 (-1)) ∧ Below w1.heap.size w1 w')) :
    Calls Tryd.prog 6 #[.string a, .string b, .string c] w (LawEnd w) := by
  have haI : (a.size : Int) ≤ 512 := by omega
  have hbI : (b.size : Int) ≤ 512 := by omega
  have hcI : (c.size : Int) ≤ 512 := by omega
  have H9 := Lib.hid (alive_any m w hm)
  have HX' := Lib.hid HX
  have HY' := Lib.hid HY
  have HZ' := Lib.hid HZ
  have HR' := Lib.hid HR
  have HN' := Lib.hid HN
  clear HX HY HZ HR HN
  go_enter Tryd.func6, Tryd.ntmps6
  go_wp2_with fail
  refine H9.out.mono ?_
  rintro e w1 ⟨rfl, hB⟩
  go_wp2_with fail
  refine (HX'.out _ hB).mono ?_
  rintro e w2 ⟨rfl, hB2⟩
  replace hB := hB.trans (hB2.mono hB.size)
  clear hB2
  go_wp2_with fail
  refine (HY'.out _ hB).mono ?_
  rintro e w3 ⟨rfl, hB2⟩
  replace hB := hB.trans (hB2.mono hB.size)
  clear hB2
  go_wp2_with fail
  refine (HZ'.out _ hB).mono ?_
  rintro e w4 ⟨rfl, hB2⟩
  replace hB := hB.trans (hB2.mono hB.size)
  clear hB2
  go_wp2_with fail
  refine (HR'.out _ hB).mono ?_
  rintro e w5 ⟨rfl, hB2⟩
  replace hB := hB.trans (hB2.mono hB.size)
  clear hB2
  go_wp2_with fail
  refine (HN'.out _ hB).mono ?_
  rintro e w6 ⟨rfl, hB2⟩
  replace hB := hB.trans (hB2.mono hB.size)
  clear hB2
  go_wp2_with fail
  go_ret
  exact ⟨rfl, hB⟩
set_option maxHeartbeats 1000000 in
theorem orders_poo (a b c : ByteArray) (m : Int) (w : World) (ha : a.size ≤ 512) (hb : b.size ≤ 512) (hc : c.size ≤ 512) (hm : w.cell? ⟨0, 0, none⟩ = some (.int .i64 m))
    (hab : (a.toList == b.toList) = false) (HX : (∀ w1, Below w.heap.size w w1 → Calls Tryd.prog 23 #[.string a, .string b] w1 fun e w' => e = .returned (.int .i64 1) ∧ Below w1.heap.size w1 w')) (HY : (∀ w1, Below w.heap.size w w1 → Calls Tryd.prog 23 #[.string b, .string c] w1 fun e w' => e = .returned (.int .i64 0) ∧ Below w1.heap.size w1 w')) (HZ : (∀ w1, Below w.heap.size w w1 → Calls Tryd.prog 23 #[.string a, .string c] w1 fun e w' => e = .returned (.int .i64 0) ∧ Below w1.heap.size w1 w')) (HR : (∀ w1, Below w.heap.size w w1 → Calls Tryd.prog 24 #[.string a, .string b] w1 fun e w' => e = .returned (.int .i64 1) ∧ Below w1.heap.size w1 w')) (HN : (∀ w1, Below w.heap.size w w1 → Calls Tryd.prog 23 #[.string b, .string a] w1 fun e w' => e = .returned (.int .i64 (-1)) ∧ Below w1.heap.size w1 w')) :
    Calls Tryd.prog 6 #[.string a, .string b, .string c] w (LawEnd w) := by
  have haI : (a.size : Int) ≤ 512 := by omega
  have hbI : (b.size : Int) ≤ 512 := by omega
  have hcI : (c.size : Int) ≤ 512 := by omega
  have H9 := Lib.hid (alive_any m w hm)
  have HX' := Lib.hid HX
  have HY' := Lib.hid HY
  have HZ' := Lib.hid HZ
  have HR' := Lib.hid HR
  have HN' := Lib.hid HN
  clear HX HY HZ HR HN
  go_enter Tryd.func6, Tryd.ntmps6
  go_wp2_with fail
  refine H9.out.mono ?_
  rintro e w1 ⟨rfl, hB⟩
  go_wp2_with fail
  refine (HX'.out _ hB).mono ?_
  rintro e w2 ⟨rfl, hB2⟩
  replace hB := hB.trans (hB2.mono hB.size)
  clear hB2
  go_wp2_with fail
  refine (HY'.out _ hB).mono ?_
  rintro e w3 ⟨rfl, hB2⟩
  replace hB := hB.trans (hB2.mono hB.size)
  clear hB2
  go_wp2_with fail
  refine (HZ'.out _ hB).mono ?_
  rintro e w4 ⟨rfl, hB2⟩
  replace hB := hB.trans (hB2.mono hB.size)
  clear hB2
  go_wp2_with fail
  refine (HR'.out _ hB).mono ?_
  rintro e w5 ⟨rfl, hB2⟩
  replace hB := hB.trans (hB2.mono hB.size)
  clear hB2
  go_wp2_with fail
  refine (HN'.out _ hB).mono ?_
  rintro e w6 ⟨rfl, hB2⟩
  replace hB := hB.trans (hB2.mono hB.size)
  clear hB2
  go_wp2_with fail
  go_ret
  exact ⟨rfl, hB⟩
set_option maxHeartbeats 1000000 in
theorem orders_pop (a b c : ByteArray) (m : Int) (w : World) (ha : a.size ≤ 512) (hb : b.size ≤ 512) (hc : c.size ≤ 512) (hm : w.cell? ⟨0, 0, none⟩ = some (.int .i64 m))
    (hab : (a.toList == b.toList) = false) (HX : (∀ w1, Below w.heap.size w w1 → Calls Tryd.prog 23 #[.string a, .string b] w1 fun e w' => e = .returned (.int .i64 1) ∧ Below w1.heap.size w1 w')) (HY : (∀ w1, Below w.heap.size w w1 → Calls Tryd.prog 23 #[.string b, .string c] w1 fun e w' => e = .returned (.int .i64 0) ∧ Below w1.heap.size w1 w')) (HZ : (∀ w1, Below w.heap.size w w1 → Calls Tryd.prog 23 #[.string a, .string c] w1 fun e w' => e = .returned (.int .i64 1) ∧ Below w1.heap.size w1 w')) (HR : (∀ w1, Below w.heap.size w w1 → Calls Tryd.prog 24 #[.string a, .string b] w1 fun e w' => e = .returned (.int .i64 1) ∧ Below w1.heap.size w1 w')) (HN : (∀ w1, Below w.heap.size w w1 → Calls Tryd.prog 23 #[.string b, .string a] w1 fun e w' => e = .returned (.int .i64 (-1)) ∧ Below w1.heap.size w1 w')) :
    Calls Tryd.prog 6 #[.string a, .string b, .string c] w (LawEnd w) := by
  have haI : (a.size : Int) ≤ 512 := by omega
  have hbI : (b.size : Int) ≤ 512 := by omega
  have hcI : (c.size : Int) ≤ 512 := by omega
  have H9 := Lib.hid (alive_any m w hm)
  have HX' := Lib.hid HX
  have HY' := Lib.hid HY
  have HZ' := Lib.hid HZ
  have HR' := Lib.hid HR
  have HN' := Lib.hid HN
  clear HX HY HZ HR HN
  go_enter Tryd.func6, Tryd.ntmps6
  go_wp2_with fail
  refine H9.out.mono ?_
  rintro e w1 ⟨rfl, hB⟩
  go_wp2_with fail
  refine (HX'.out _ hB).mono ?_
  rintro e w2 ⟨rfl, hB2⟩
  replace hB := hB.trans (hB2.mono hB.size)
  clear hB2
  go_wp2_with fail
  refine (HY'.out _ hB).mono ?_
  rintro e w3 ⟨rfl, hB2⟩
  replace hB := hB.trans (hB2.mono hB.size)
  clear hB2
  go_wp2_with fail
  refine (HZ'.out _ hB).mono ?_
  rintro e w4 ⟨rfl, hB2⟩
  replace hB := hB.trans (hB2.mono hB.size)
  clear hB2
  go_wp2_with fail
  refine (HR'.out _ hB).mono ?_
  rintro e w5 ⟨rfl, hB2⟩
  replace hB := hB.trans (hB2.mono hB.size)
  clear hB2
  go_wp2_with fail
  refine (HN'.out _ hB).mono ?_
  rintro e w6 ⟨rfl, hB2⟩
  replace hB := hB.trans (hB2.mono hB.size)
  clear hB2
  go_wp2_with fail
  go_ret
  exact ⟨rfl, hB⟩
set_option maxHeartbeats 1000000 in
theorem orders_ppo (a b c : ByteArray) (m : Int) (w : World) (ha : a.size ≤ 512) (hb : b.size ≤ 512) (hc : c.size ≤ 512) (hm : w.cell? ⟨0, 0, none⟩ = some (.int .i64 m))
    (hab : (a.toList == b.toList) = false) (HX : (∀ w1, Below w.heap.size w w1 → Calls Tryd.prog 23 #[.string a, .string b] w1 fun e w' => e = .returned (.int .i64 1) ∧ Below w1.heap.size w1 w')) (HY : (∀ w1, Below w.heap.size w w1 → Calls Tryd.prog 23 #[.string b, .string c] w1 fun e w' => e = .returned (.int .i64 1) ∧ Below w1.heap.size w1 w')) (HZ : (∀ w1, Below w.heap.size w w1 → Calls Tryd.prog 23 #[.string a, .string c] w1 fun e w' => e = .returned (.int .i64 0) ∧ Below w1.heap.size w1 w')) (HR : (∀ w1, Below w.heap.size w w1 → Calls Tryd.prog 24 #[.string a, .string b] w1 fun e w' => e = .returned (.int .i64 1) ∧ Below w1.heap.size w1 w')) (HN : (∀ w1, Below w.heap.size w w1 → Calls Tryd.prog 23 #[.string b, .string a] w1 fun e w' => e = .returned (.int .i64 (-1)) ∧ Below w1.heap.size w1 w')) :
    Calls Tryd.prog 6 #[.string a, .string b, .string c] w (LawEnd w) := by
  have haI : (a.size : Int) ≤ 512 := by omega
  have hbI : (b.size : Int) ≤ 512 := by omega
  have hcI : (c.size : Int) ≤ 512 := by omega
  have H9 := Lib.hid (alive_any m w hm)
  have HX' := Lib.hid HX
  have HY' := Lib.hid HY
  have HZ' := Lib.hid HZ
  have HR' := Lib.hid HR
  have HN' := Lib.hid HN
  clear HX HY HZ HR HN
  go_enter Tryd.func6, Tryd.ntmps6
  go_wp2_with fail
  refine H9.out.mono ?_
  rintro e w1 ⟨rfl, hB⟩
  go_wp2_with fail
  refine (HX'.out _ hB).mono ?_
  rintro e w2 ⟨rfl, hB2⟩
  replace hB := hB.trans (hB2.mono hB.size)
  clear hB2
  go_wp2_with fail
  refine (HY'.out _ hB).mono ?_
  rintro e w3 ⟨rfl, hB2⟩
  replace hB := hB.trans (hB2.mono hB.size)
  clear hB2
  go_wp2_with fail
  refine (HZ'.out _ hB).mono ?_
  rintro e w4 ⟨rfl, hB2⟩
  replace hB := hB.trans (hB2.mono hB.size)
  clear hB2
  go_wp2_with fail
  refine (HR'.out _ hB).mono ?_
  rintro e w5 ⟨rfl, hB2⟩
  replace hB := hB.trans (hB2.mono hB.size)
  clear hB2
  go_wp2_with fail
  refine (HN'.out _ hB).mono ?_
  rintro e w6 ⟨rfl, hB2⟩
  replace hB := hB.trans (hB2.mono hB.size)
  clear hB2
  go_wp2_with fail
  go_ret
  exact ⟨rfl, hB⟩
set_option maxHeartbeats 1000000 in
theorem orders_ppp (a b c : ByteArray) (m : Int) (w : World) (ha : a.size ≤ 512) (hb : b.size ≤ 512) (hc : c.size ≤ 512) (hm : w.cell? ⟨0, 0, none⟩ = some (.int .i64 m))
    (hab : (a.toList == b.toList) = false) (HX : (∀ w1, Below w.heap.size w w1 → Calls Tryd.prog 23 #[.string a, .string b] w1 fun e w' => e = .returned (.int .i64 1) ∧ Below w1.heap.size w1 w')) (HY : (∀ w1, Below w.heap.size w w1 → Calls Tryd.prog 23 #[.string b, .string c] w1 fun e w' => e = .returned (.int .i64 1) ∧ Below w1.heap.size w1 w')) (HZ : (∀ w1, Below w.heap.size w w1 → Calls Tryd.prog 23 #[.string a, .string c] w1 fun e w' => e = .returned (.int .i64 1) ∧ Below w1.heap.size w1 w')) (HR : (∀ w1, Below w.heap.size w w1 → Calls Tryd.prog 24 #[.string a, .string b] w1 fun e w' => e = .returned (.int .i64 1) ∧ Below w1.heap.size w1 w')) (HN : (∀ w1, Below w.heap.size w w1 → Calls Tryd.prog 23 #[.string b, .string a] w1 fun e w' => e = .returned (.int .i64 (-1)) ∧ Below w1.heap.size w1 w')) :
    Calls Tryd.prog 6 #[.string a, .string b, .string c] w (LawEnd w) := by
  have haI : (a.size : Int) ≤ 512 := by omega
  have hbI : (b.size : Int) ≤ 512 := by omega
  have hcI : (c.size : Int) ≤ 512 := by omega
  have H9 := Lib.hid (alive_any m w hm)
  have HX' := Lib.hid HX
  have HY' := Lib.hid HY
  have HZ' := Lib.hid HZ
  have HR' := Lib.hid HR
  have HN' := Lib.hid HN
  clear HX HY HZ HR HN
  go_enter Tryd.func6, Tryd.ntmps6
  go_wp2_with fail
  refine H9.out.mono ?_
  rintro e w1 ⟨rfl, hB⟩
  go_wp2_with fail
  refine (HX'.out _ hB).mono ?_
  rintro e w2 ⟨rfl, hB2⟩
  replace hB := hB.trans (hB2.mono hB.size)
  clear hB2
  go_wp2_with fail
  refine (HY'.out _ hB).mono ?_
  rintro e w3 ⟨rfl, hB2⟩
  replace hB := hB.trans (hB2.mono hB.size)
  clear hB2
  go_wp2_with fail
  refine (HZ'.out _ hB).mono ?_
  rintro e w4 ⟨rfl, hB2⟩
  replace hB := hB.trans (hB2.mono hB.size)
  clear hB2
  go_wp2_with fail
  refine (HR'.out _ hB).mono ?_
  rintro e w5 ⟨rfl, hB2⟩
  replace hB := hB.trans (hB2.mono hB.size)
  clear hB2
  go_wp2_with fail
  refine (HN'.out _ hB).mono ?_
  rintro e w6 ⟨rfl, hB2⟩
  replace hB := hB.trans (hB2.mono hB.size)
  clear hB2
  go_wp2_with fail
  go_ret
  exact ⟨rfl, hB⟩
theorem orders_longa (a b c : ByteArray) (m : Int) (w : World) (ha : ¬ (a.size : Int) ≤ 512) (hm : w.cell? ⟨0, 0, none⟩ = some (.int .i64 m)) : Calls Tryd.prog 6 #[.string a, .string b, .string c] w (LawEnd w) := by
  have H9 := Lib.hid (alive_any m w hm)
  go_enter Tryd.func6, Tryd.ntmps6
  go_wp2_with fail
  refine H9.out.mono ?_
  rintro e w1 ⟨rfl, hB⟩
  go_wp2_with fail
  go_ret
  exact ⟨rfl, hB⟩
theorem orders_longb (a b c : ByteArray) (m : Int) (w : World) (ha : (a.size : Int) ≤ 512) (hb : ¬ (b.size : Int) ≤ 512) (hm : w.cell? ⟨0, 0, none⟩ = some (.int .i64 m)) : Calls Tryd.prog 6 #[.string a, .string b, .string c] w (LawEnd w) := by
  have H9 := Lib.hid (alive_any m w hm)
  go_enter Tryd.func6, Tryd.ntmps6
  go_wp2_with fail
  refine H9.out.mono ?_
  rintro e w1 ⟨rfl, hB⟩
  go_wp2_with fail
  go_ret
  exact ⟨rfl, hB⟩
theorem orders_longc (a b c : ByteArray) (m : Int) (w : World) (ha : (a.size : Int) ≤ 512) (hb : (b.size : Int) ≤ 512) (hc : ¬ (c.size : Int) ≤ 512) (hm : w.cell? ⟨0, 0, none⟩ = some (.int .i64 m)) : Calls Tryd.prog 6 #[.string a, .string b, .string c] w (LawEnd w) := by
  have H9 := Lib.hid (alive_any m w hm)
  go_enter Tryd.func6, Tryd.ntmps6
  go_wp2_with fail
  refine H9.out.mono ?_
  rintro e w1 ⟨rfl, hB⟩
  go_wp2_with fail
  go_ret
  exact ⟨rfl, hB⟩
theorem orders_walk (a b c : ByteArray) (m : Int) (w : World) (hm : w.cell? ⟨0, 0, none⟩ = some (.int .i64 m)) : Calls Tryd.prog 6 #[.string a, .string b, .string c] w (LawEnd w) := by
  by_cases ha : a.size ≤ 512
  · by_cases hb : b.size ≤ 512
    · by_cases hc : c.size ≤ 512
      · have hx := cmpP_vals a b
        have hy := cmpP_vals b c
        have hz := cmpP_vals a c
        have hle := cmpP_le a b c
        have hge := cmpP_ge a b c
        have HX := cmp_to a b _ m w (by omega) (by omega) rfl hm
        have HY := cmp_to b c _ m w (by omega) (by omega) rfl hm
        have HZ := cmp_to a c _ m w (by omega) (by omega) rfl hm
        have HN := cmp_to b a _ m w (by omega) (by omega) (cmpP_neg a b) hm
        have HR : (∀ w1, Below w.heap.size w w1 → Calls Tryd.prog 24 #[.string a, .string b] w1 fun e w' => e = .returned (.int .i64 (cmpP a b)) ∧ Below w1.heap.size w1 w') := fun w1 _ => refCmp_any a b w1 (by omega) (by omega)
        have hab : (a.toList == b.toList) = decide (cmpP a b = 0) := by
          by_cases e : a = b
          · rw [beq_of e, decide_eq_true ((cmpP_zero a b).2 e)]
          · rw [beq_of_ne e, decide_eq_false (fun h => e ((cmpP_zero a b).1 h))]
        generalize cmpP a b = x at *
        generalize cmpP b c = y at *
        generalize cmpP a c = z at *
        rcases hx with rfl | rfl | rfl <;> rcases hy with rfl | rfl | rfl <;> rcases hz with rfl | rfl | rfl
        · exact orders_mmm a b c m w ha hb hc hm hab HX HY HZ HR HN
        · exact orders_mmo a b c m w ha hb hc hm hab HX HY HZ HR HN
        · exact absurd (hle (by decide) (by decide)) (by decide)
        · exact orders_mom a b c m w ha hb hc hm hab HX HY HZ HR HN
        · exact orders_moo a b c m w ha hb hc hm hab HX HY HZ HR HN
        · exact absurd (hle (by decide) (by decide)) (by decide)
        · exact orders_mpm a b c m w ha hb hc hm hab HX HY HZ HR HN
        · exact orders_mpo a b c m w ha hb hc hm hab HX HY HZ HR HN
        · exact orders_mpp a b c m w ha hb hc hm hab HX HY HZ HR HN
        · exact orders_omm a b c m w ha hb hc hm hab HX HY HZ HR HN
        · exact orders_omo a b c m w ha hb hc hm hab HX HY HZ HR HN
        · exact absurd (hle (by decide) (by decide)) (by decide)
        · exact absurd (hge (by decide) (by decide)) (by decide)
        · exact orders_ooo a b c m w ha hb hc hm hab HX HY HZ HR HN
        · exact absurd (hle (by decide) (by decide)) (by decide)
        · exact absurd (hge (by decide) (by decide)) (by decide)
        · exact orders_opo a b c m w ha hb hc hm hab HX HY HZ HR HN
        · exact orders_opp a b c m w ha hb hc hm hab HX HY HZ HR HN
        · exact orders_pmm a b c m w ha hb hc hm hab HX HY HZ HR HN
        · exact orders_pmo a b c m w ha hb hc hm hab HX HY HZ HR HN
        · exact orders_pmp a b c m w ha hb hc hm hab HX HY HZ HR HN
        · exact absurd (hge (by decide) (by decide)) (by decide)
        · exact orders_poo a b c m w ha hb hc hm hab HX HY HZ HR HN
        · exact orders_pop a b c m w ha hb hc hm hab HX HY HZ HR HN
        · exact absurd (hge (by decide) (by decide)) (by decide)
        · exact orders_ppo a b c m w ha hb hc hm hab HX HY HZ HR HN
        · exact orders_ppp a b c m w ha hb hc hm hab HX HY HZ HR HN
      · exact orders_longc a b c m w (by omega) (by omega) (by omega) hm
    · exact orders_longb a b c m w (by omega) (by omega) hm
  · exact orders_longa a b c m w (by omega) hm
end Go.Proofs.YthgbclgdaaaefaaDoor
