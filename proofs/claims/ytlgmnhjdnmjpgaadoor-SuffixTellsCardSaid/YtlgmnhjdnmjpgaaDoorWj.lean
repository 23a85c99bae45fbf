/- Walks: the document's Unix, both Hidden, alive; the laws SuffixKnows and SuffixOf. -/
import Derived.Test.YtlgmnhjdnmjpgaaDoorWi
namespace Go.Proofs.YtlgmnhjdnmjpgaaDoor
set_option linter.unusedVariables false
open Go.ChangeShapes Go.WideShapes Go.ChangeAt Go.RowKit

set_option maxHeartbeats 800000 in
theorem refUnix_no (s : ByteArray) (w : World) (H : ∀ w1, Calls Tryd.prog 9 #[.string s] w1 fun e w' => e = .returned (.bool false) ∧ Below w1.heap.size w1 w') :
    Calls Tryd.prog 13 #[.string s] w fun e w' => e = .returned (.bool false) ∧ Below w.heap.size w w' := by
  have H' := Lib.hid H
  clear H
  go_enter Tryd.func13, Tryd.ntmps13
  go_wp2_with fail
  refine (H'.out _).mono ?_
  rintro e w1 ⟨rfl, hB⟩
  go_wp2_with fail
  go_ret
  exact ⟨rfl, hB⟩
set_option maxHeartbeats 800000 in
theorem refUnix_at0 (s : ByteArray) (w : World) (H : ∀ w1, Calls Tryd.prog 9 #[.string s] w1 fun e w' => e = .returned (.bool true) ∧ Below w1.heap.size w1 w') (h0 : (s.toList == ([106, 115] : List UInt8)) = true) :
    Calls Tryd.prog 13 #[.string s] w fun e w' => e = .returned (.bool false) ∧ Below w.heap.size w w' := by
  have H' := Lib.hid H
  clear H
  go_enter Tryd.func13, Tryd.ntmps13
  go_wp2_with fail
  refine (H'.out _).mono ?_
  rintro e w1 ⟨rfl, hB⟩
  go_wp2_with fail
  go_ret
  exact ⟨rfl, hB⟩
set_option maxHeartbeats 800000 in
theorem refUnix_at1 (s : ByteArray) (w : World) (H : ∀ w1, Calls Tryd.prog 9 #[.string s] w1 fun e w' => e = .returned (.bool true) ∧ Below w1.heap.size w1 w') (h0 : (s.toList == ([106, 115] : List UInt8)) = false) (h1 : (s.toList == ([112, 108, 97, 110, 57] : List UInt8)) = true) :
    Calls Tryd.prog 13 #[.string s] w fun e w' => e = .returned (.bool false) ∧ Below w.heap.size w w' := by
  have H' := Lib.hid H
  clear H
  go_enter Tryd.func13, Tryd.ntmps13
  go_wp2_with fail
  refine (H'.out _).mono ?_
  rintro e w1 ⟨rfl, hB⟩
  go_wp2_with fail
  go_ret
  exact ⟨rfl, hB⟩
set_option maxHeartbeats 800000 in
theorem refUnix_at2 (s : ByteArray) (w : World) (H : ∀ w1, Calls Tryd.prog 9 #[.string s] w1 fun e w' => e = .returned (.bool true) ∧ Below w1.heap.size w1 w') (h0 : (s.toList == ([106, 115] : List UInt8)) = false) (h1 : (s.toList == ([112, 108, 97, 110, 57] : List UInt8)) = false) (h2 : (s.toList == ([119, 97, 115, 105, 112, 49] : List UInt8)) = true) :
    Calls Tryd.prog 13 #[.string s] w fun e w' => e = .returned (.bool false) ∧ Below w.heap.size w w' := by
  have H' := Lib.hid H
  clear H
  go_enter Tryd.func13, Tryd.ntmps13
  go_wp2_with fail
  refine (H'.out _).mono ?_
  rintro e w1 ⟨rfl, hB⟩
  go_wp2_with fail
  go_ret
  exact ⟨rfl, hB⟩
set_option maxHeartbeats 800000 in
theorem refUnix_at3 (s : ByteArray) (w : World) (H : ∀ w1, Calls Tryd.prog 9 #[.string s] w1 fun e w' => e = .returned (.bool true) ∧ Below w1.heap.size w1 w') (h0 : (s.toList == ([106, 115] : List UInt8)) = false) (h1 : (s.toList == ([112, 108, 97, 110, 57] : List UInt8)) = false) (h2 : (s.toList == ([119, 97, 115, 105, 112, 49] : List UInt8)) = false) (h3 : (s.toList == ([119, 105, 110, 100, 111, 119, 115] : List UInt8)) = true) :
    Calls Tryd.prog 13 #[.string s] w fun e w' => e = .returned (.bool false) ∧ Below w.heap.size w w' := by
  have H' := Lib.hid H
  clear H
  go_enter Tryd.func13, Tryd.ntmps13
  go_wp2_with fail
  refine (H'.out _).mono ?_
  rintro e w1 ⟨rfl, hB⟩
  go_wp2_with fail
  go_ret
  exact ⟨rfl, hB⟩
set_option maxHeartbeats 800000 in
theorem refUnix_yes (s : ByteArray) (w : World) (H : ∀ w1, Calls Tryd.prog 9 #[.string s] w1 fun e w' => e = .returned (.bool true) ∧ Below w1.heap.size w1 w') (h0 : (s.toList == ([106, 115] : List UInt8)) = false) (h1 : (s.toList == ([112, 108, 97, 110, 57] : List UInt8)) = false) (h2 : (s.toList == ([119, 97, 115, 105, 112, 49] : List UInt8)) = false) (h3 : (s.toList == ([119, 105, 110, 100, 111, 119, 115] : List UInt8)) = false) :
    Calls Tryd.prog 13 #[.string s] w fun e w' => e = .returned (.bool true) ∧ Below w.heap.size w w' := by
  have H' := Lib.hid H
  clear H
  go_enter Tryd.func13, Tryd.ntmps13
  go_wp2_with fail
  refine (H'.out _).mono ?_
  rintro e w1 ⟨rfl, hB⟩
  go_wp2_with fail
  go_ret
  exact ⟨rfl, hB⟩
theorem sys_unix (s : ByteArray) (c0 : ¬ s = (⟨[106, 115].toArray⟩ : ByteArray)) (c1 : ¬ s = (⟨[112, 108, 97, 110, 57].toArray⟩ : ByteArray)) (c2 : ¬ s = (⟨[119, 97, 115, 105, 112, 49].toArray⟩ : ByteArray)) (c3 : ¬ s = (⟨[119, 105, 110, 100, 111, 119, 115].toArray⟩ : ByteArray)) : inB sysL s = inB unixL s := by
  have d0 : decide ("js".toUTF8 = s) = false := decide_eq_false (fun h => c0 (h.symm.trans (by decide +kernel)))
  have d1 : decide ("plan9".toUTF8 = s) = false := decide_eq_false (fun h => c1 (h.symm.trans (by decide +kernel)))
  have d2 : decide ("wasip1".toUTF8 = s) = false := decide_eq_false (fun h => c2 (h.symm.trans (by decide +kernel)))
  have d3 : decide ("windows".toUTF8 = s) = false := decide_eq_false (fun h => c3 (h.symm.trans (by decide +kernel)))
  unfold inB sysL unixL
  simp only [List.any_cons, List.any_nil, d0, d1, d2, d3, Bool.false_or, Bool.or_false]
theorem refUnix_any (s : ByteArray) (w : World) : Calls Tryd.prog 13 #[.string s] w fun e w' => e = .returned (.bool (inB unixL s)) ∧ Below w.heap.size w w' := by
  have H := fun w1 => refSystem_any s w1
  by_cases c0 : s = (⟨[106, 115].toArray⟩ : ByteArray)
  · have e1 : inB sysL s = true := by rw [c0]; decide +kernel
    have e2 : inB unixL s = false := by rw [c0]; decide +kernel
    rw [e1] at H
    rw [e2]
    exact refUnix_at0 s w H  (lit_eq c0)
  by_cases c1 : s = (⟨[112, 108, 97, 110, 57].toArray⟩ : ByteArray)
  · have e1 : inB sysL s = true := by rw [c1]; decide +kernel
    have e2 : inB unixL s = false := by rw [c1]; decide +kernel
    rw [e1] at H
    rw [e2]
    exact refUnix_at1 s w H (lit_ne c0) (lit_eq c1)
  by_cases c2 : s = (⟨[119, 97, 115, 105, 112, 49].toArray⟩ : ByteArray)
  · have e1 : inB sysL s = true := by rw [c2]; decide +kernel
    have e2 : inB unixL s = false := by rw [c2]; decide +kernel
    rw [e1] at H
    rw [e2]
    exact refUnix_at2 s w H (lit_ne c0) (lit_ne c1) (lit_eq c2)
  by_cases c3 : s = (⟨[119, 105, 110, 100, 111, 119, 115].toArray⟩ : ByteArray)
  · have e1 : inB sysL s = true := by rw [c3]; decide +kernel
    have e2 : inB unixL s = false := by rw [c3]; decide +kernel
    rw [e1] at H
    rw [e2]
    exact refUnix_at3 s w H (lit_ne c0) (lit_ne c1) (lit_ne c2) (lit_eq c3)
  rw [← sys_unix s c0 c1 c2 c3]
  cases hb : inB sysL s with
  | true => rw [hb] at H; exact refUnix_yes s w H (lit_ne c0) (lit_ne c1) (lit_ne c2) (lit_ne c3)
  | false => rw [hb] at H; exact refUnix_no s w H

def hidB (s : ByteArray) : Bool := passB s || decide (s = (⟨[116, 101, 115, 116, 100, 97, 116, 97].toArray⟩ : ByteArray))
set_option maxHeartbeats 800000 in
theorem hidden_a (s : ByteArray) (w : World) (H : ∀ w1, Calls Tryd.prog 23 #[.string s] w1 fun e w' => e = .returned (.bool true) ∧ Below w1.heap.size w1 w')  :
    Calls Tryd.prog 14 #[.string s] w fun e w' => e = .returned (.bool true) ∧ Below w.heap.size w w' := by
  have H' := Lib.hid H
  clear H
  go_enter Tryd.func14, Tryd.ntmps14
  go_wp2_with fail
  refine (H'.out _).mono ?_
  rintro e w1 ⟨rfl, hB⟩
  go_wp2_with fail
  go_ret
  exact ⟨rfl, hB⟩
set_option maxHeartbeats 800000 in
theorem hidden_b (s : ByteArray) (w : World) (H : ∀ w1, Calls Tryd.prog 23 #[.string s] w1 fun e w' => e = .returned (.bool false) ∧ Below w1.heap.size w1 w') (h : (s.toList == ([116, 101, 115, 116, 100, 97, 116, 97] : List UInt8)) = true) :
    Calls Tryd.prog 14 #[.string s] w fun e w' => e = .returned (.bool true) ∧ Below w.heap.size w w' := by
  have H' := Lib.hid H
  clear H
  go_enter Tryd.func14, Tryd.ntmps14
  go_wp2_with fail
  refine (H'.out _).mono ?_
  rintro e w1 ⟨rfl, hB⟩
  go_wp2_with fail
  go_ret
  exact ⟨rfl, hB⟩
set_option maxHeartbeats 800000 in
theorem hidden_c (s : ByteArray) (w : World) (H : ∀ w1, Calls Tryd.prog 23 #[.string s] w1 fun e w' => e = .returned (.bool false) ∧ Below w1.heap.size w1 w') (h : (s.toList == ([116, 101, 115, 116, 100, 97, 116, 97] : List UInt8)) = false) :
    Calls Tryd.prog 14 #[.string s] w fun e w' => e = .returned (.bool false) ∧ Below w.heap.size w w' := by
  have H' := Lib.hid H
  clear H
  go_enter Tryd.func14, Tryd.ntmps14
  go_wp2_with fail
  refine (H'.out _).mono ?_
  rintro e w1 ⟨rfl, hB⟩
  go_wp2_with fail
  go_ret
  exact ⟨rfl, hB⟩
theorem below_of_eq {w w' : World} (h : w = w') : Below w.heap.size w w' := by subst h; exact Below.refl _ _
theorem hidden_any (s : ByteArray) (w : World) : Calls Tryd.prog 14 #[.string s] w fun e w' => e = .returned (.bool (hidB s)) ∧ Below w.heap.size w w' := by
  have H : ∀ w1, Calls Tryd.prog 23 #[.string s] w1 fun e w' => e = .returned (.bool (passB s)) ∧ Below w1.heap.size w1 w' := fun w1 => (passed_any s w1).mono fun e w' h => ⟨h.1, below_of_eq h.2⟩
  unfold hidB
  cases hp : passB s with
  | true => rw [hp] at H; exact hidden_a s w H
  | false =>
    rw [hp] at H
    by_cases c : s = (⟨[116, 101, 115, 116, 100, 97, 116, 97].toArray⟩ : ByteArray)
    · rw [decide_eq_true c]; exact hidden_b s w H (lit_eq c)
    · rw [decide_eq_false c]; exact hidden_c s w H (lit_ne c)
set_option maxHeartbeats 800000 in
theorem refHidden_a (s : ByteArray) (w : World) (h : (s.toList == ([116, 101, 115, 116, 100, 97, 116, 97] : List UInt8)) = true) :
    Calls Tryd.prog 15 #[.string s] w fun e w' => e = .returned (.bool true) ∧ Below w.heap.size w w' := by
  go_enter Tryd.func15, Tryd.ntmps15
  go_wp2_with fail
  go_ret
  exact ⟨rfl, Below.refl _ _⟩
set_option maxHeartbeats 800000 in
theorem refHidden_b (s : ByteArray) (w : World) (h : (s.toList == ([116, 101, 115, 116, 100, 97, 116, 97] : List UInt8)) = false) (h1 : s = ⟨#[]⟩) :
    Calls Tryd.prog 15 #[.string s] w fun e w' => e = .returned (.bool false) ∧ Below w.heap.size w w' := by
  subst h1
  go_enter Tryd.func15, Tryd.ntmps15
  go_wp2_with fail
  go_ret
  exact ⟨rfl, Below.refl _ _⟩
set_option maxHeartbeats 800000 in
theorem refHidden_c (s : ByteArray) (w : World) (h : (s.toList == ([116, 101, 115, 116, 100, 97, 116, 97] : List UInt8)) = false) (h1 : (!s.toList.isEmpty) = true) (h2 : (s.toList == ([] : List UInt8)) = false) (h0 : 0 < s.size) (h3 : (((s[0]'h0).toNat : Int) == 95) = true) :
    Calls Tryd.prog 15 #[.string s] w fun e w' => e = .returned (.bool true) ∧ Below w.heap.size w w' := by
  go_enter Tryd.func15, Tryd.ntmps15
  go_wp2_with fail
  go_ret
  exact ⟨rfl, Below.refl _ _⟩
set_option maxHeartbeats 800000 in
theorem refHidden_d (s : ByteArray) (w : World) (h : (s.toList == ([116, 101, 115, 116, 100, 97, 116, 97] : List UInt8)) = false) (h1 : (!s.toList.isEmpty) = true) (h2 : (s.toList == ([] : List UInt8)) = false) (h0 : 0 < s.size) (h3 : (((s[0]'h0).toNat : Int) == 95) = false) (h4 : (((s[0]'h0).toNat : Int) == 46) = true) :
    Calls Tryd.prog 15 #[.string s] w fun e w' => e = .returned (.bool true) ∧ Below w.heap.size w w' := by
  go_enter Tryd.func15, Tryd.ntmps15
  go_wp2_with fail
  go_ret
  exact ⟨rfl, Below.refl _ _⟩
set_option maxHeartbeats 800000 in
theorem refHidden_e (s : ByteArray) (w : World) (h : (s.toList == ([116, 101, 115, 116, 100, 97, 116, 97] : List UInt8)) = false) (h1 : (!s.toList.isEmpty) = true) (h2 : (s.toList == ([] : List UInt8)) = false) (h0 : 0 < s.size) (h3 : (((s[0]'h0).toNat : Int) == 95) = false) (h4 : (((s[0]'h0).toNat : Int) == 46) = false) :
    Calls Tryd.prog 15 #[.string s] w fun e w' => e = .returned (.bool false) ∧ Below w.heap.size w w' := by
  go_enter Tryd.func15, Tryd.ntmps15
  go_wp2_with fail
  go_ret
  exact ⟨rfl, Below.refl _ _⟩
theorem refHidden_any (s : ByteArray) (w : World) : Calls Tryd.prog 15 #[.string s] w fun e w' => e = .returned (.bool (hidB s)) ∧ Below w.heap.size w w' := by
  unfold hidB
  by_cases c : s = (⟨[116, 101, 115, 116, 100, 97, 116, 97].toArray⟩ : ByteArray)
  · rw [decide_eq_true c, Bool.or_true]; exact refHidden_a s w (lit_eq c)
  rw [decide_eq_false c, Bool.or_false]
  cases hs1 : some1 s with
  | false =>
    have e := empty_of s hs1
    rw [show passB s = false by rw [e]; rfl]
    exact refHidden_b s w (lit_ne c) e
  | true =>
    have h0 : 0 < s.size := by
      by_cases h : s.size = 0
      · unfold some1 at hs1; rw [h] at hs1; cases hs1
      · omega
    have n1 := toList_some s hs1
    have n2 : (s.toList == ([] : List UInt8)) = false := by
      have := toList_empty s hs1
      rw [Lib.toList_data ⟨#[]⟩] at this
      exact this
    unfold passB
    rw [← head_is s h0 95, ← head_is s h0 46]
    cases h3 : (((s[0]'h0).toNat : Int) == ((95 : UInt8).toNat : Int)) with
    | true => exact refHidden_c s w (lit_ne c) n1 n2 h0 h3
    | false =>
      cases h4 : (((s[0]'h0).toNat : Int) == ((46 : UInt8).toNat : Int)) with
      | true => exact refHidden_d s w (lit_ne c) n1 n2 h0 h3 h4
      | false => exact refHidden_e s w (lit_ne c) n1 n2 h0 h3 h4

theorem alive_any (m : Int) (w : World) (hm : w.cell? ⟨0, 0, none⟩ = some (.int .i64 m)) : Calls Tryd.prog 7 #[] w fun e w' => e = .returned (.bool true) ∧ Below w.heap.size w w' := by
  have H := of_any "x_linux_arm_test.go".toUTF8 m w (by decide +kernel) hm
  rw [show ofB "x_linux_arm_test.go".toUTF8 = (true, true, ⟨#[108, 105, 110, 117, 120]⟩, ⟨#[97, 114, 109]⟩) by decide +kernel] at H
  have hx : "x_linux_arm_test.go".toUTF8 = ⟨#[120, 95, 108, 105, 110, 117, 120, 95, 97, 114, 109, 95, 116, 101, 115, 116, 46, 103, 111]⟩ := by decide +kernel
  rw [hx] at H
  have H1 := Lib.hid H
  have H2 := fun w1 => unix_any ⟨#[108, 105, 110, 117, 120]⟩ w1
  rw [show inB unixL ⟨#[108, 105, 110, 117, 120]⟩ = true by decide +kernel] at H2
  have H3 := Lib.hid H2
  clear H H2
  go_enter Tryd.func7, Tryd.ntmps7
  go_wp2_with fail
  refine H1.out.mono ?_
  rintro e w1 ⟨rfl, hB⟩
  unfold agg4
  go_wp2_with fail
  refine (H3.out _).mono ?_
  rintro e w1 ⟨rfl, rfl⟩
  go_wp2_with fail
  go_ret
  exact ⟨rfl, hB⟩
end Go.Proofs.YtlgmnhjdnmjpgaaDoor
