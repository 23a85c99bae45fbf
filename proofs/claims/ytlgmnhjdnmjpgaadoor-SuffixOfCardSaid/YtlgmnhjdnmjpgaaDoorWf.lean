/- Walks: the document's Of, case by case. -/
import Derived.Test.YtlgmnhjdnmjpgaaDoorWe
import Derived.OwnWalk
namespace Go.Proofs.YtlgmnhjdnmjpgaaDoor
set_option linter.unusedVariables false
open Go.ChangeShapes Go.WideShapes Go.ChangeAt Go.RowKit

theorem results_tmp4 {fn : Func} {t u v x : Tmp} (h : fn.results = #[.tmp t, .tmp u, .tmp v, .tmp x]) (tmps : Array Value) (P : Program) (w : World) :
    (results fn tmps).run P w = .ok (.tuple #[tmps.getD t undef, tmps.getD u undef, tmps.getD v undef, tmps.getD x undef]) w := by
  simp [results, h]

set_option maxHeartbeats 400000 in
theorem refOf_end (s : ByteArray) (w : World) (HE : (∀ w1, Calls Tryd.prog 21 #[.string s, .string ⟨#[46, 103, 111]⟩] w1 fun e w' => e = .returned (.bool false) ∧ w1 = w')) :
    Calls Tryd.prog 16 #[.string s] w fun e w' => e = .returned (.tuple #[.bool false, .bool false, .string ⟨#[]⟩, .string ⟨#[]⟩]) ∧ Below w.heap.size w w' := by
  have HE' := Lib.hid HE
  clear HE
  go_enter Tryd.func16, Tryd.ntmps16
  go_wp2_with fail
  refine (HE'.out _).mono ?_
  rintro e w1 ⟨rfl, rfl⟩
  go_wp2_with fail
  refine bodyPost_ret (results_tmp4 rfl _ _ _) rfl ?_
  exact ⟨rfl, Below.refl _ _⟩

set_option maxHeartbeats 400000 in
theorem refOf_passa (s : ByteArray) (w : World) (h0 : 0 < s.size) (h1 : (((s[0]'h0).toNat : Int) == 95) = true) (HE : (∀ w1, Calls Tryd.prog 21 #[.string s, .string ⟨#[46, 103, 111]⟩] w1 fun e w' => e = .returned (.bool true) ∧ w1 = w')) :
    Calls Tryd.prog 16 #[.string s] w fun e w' => e = .returned (.tuple #[.bool false, .bool false, .string ⟨#[]⟩, .string ⟨#[]⟩]) ∧ Below w.heap.size w w' := by
  have HE' := Lib.hid HE
  clear HE
  go_enter Tryd.func16, Tryd.ntmps16
  go_wp2_with fail
  refine (HE'.out _).mono ?_
  rintro e w1 ⟨rfl, rfl⟩
  go_wp2_with fail
  refine bodyPost_ret (results_tmp4 rfl _ _ _) rfl ?_
  exact ⟨rfl, Below.refl _ _⟩

set_option maxHeartbeats 400000 in
theorem refOf_passb (s : ByteArray) (w : World) (h0 : 0 < s.size) (h1 : (((s[0]'h0).toNat : Int) == 95) = false) (h2 : (((s[0]'h0).toNat : Int) == 46) = true) (HE : (∀ w1, Calls Tryd.prog 21 #[.string s, .string ⟨#[46, 103, 111]⟩] w1 fun e w' => e = .returned (.bool true) ∧ w1 = w')) :
    Calls Tryd.prog 16 #[.string s] w fun e w' => e = .returned (.tuple #[.bool false, .bool false, .string ⟨#[]⟩, .string ⟨#[]⟩]) ∧ Below w.heap.size w w' := by
  have HE' := Lib.hid HE
  clear HE
  go_enter Tryd.func16, Tryd.ntmps16
  go_wp2_with fail
  refine (HE'.out _).mono ?_
  rintro e w1 ⟨rfl, rfl⟩
  go_wp2_with fail
  refine bodyPost_ret (results_tmp4 rfl _ _ _) rfl ?_
  exact ⟨rfl, Below.refl _ _⟩

set_option maxHeartbeats 1000000 in
theorem refOf_01000 (s q : ByteArray) (w : World) (h0 : 0 < s.size) (h3 : 3 ≤ s.size) (hs : s.size ≤ 1073741824) (h1 : (((s[0]'h0).toNat : Int) == 95) = false) (h2 : (((s[0]'h0).toNat : Int) == 46) = false) (hq : s.extract 0 (s.size - 3) = q) (hqs : q.size ≤ 1073741824) (HE : (∀ w1, Calls Tryd.prog 21 #[.string s, .string ⟨#[46, 103, 111]⟩] w1 fun e w' => e = .returned (.bool true) ∧ w1 = w')) (HT : (∀ w1, Calls Tryd.prog 21 #[.string q, .string ⟨#[95, 116, 101, 115, 116]⟩] w1 fun e w' => e = .returned (.bool false) ∧ w1 = w')) (HC : ∀ w1, Calls Tryd.prog 20 #[.string q, .int .u8 95] w1 fun e w' => ∃ g cap, e = .returned (.slice (some ⟨g, 0, none⟩) 1 cap) ∧ w1.heap.size ≤ g ∧ g < w'.heap.size ∧ 1 ≤ cap ∧ cap ≤ 9223372036854775807 ∧ Below w1.heap.size w1 w') :
    Calls Tryd.prog 16 #[.string s] w fun e w' => e = .returned (.tuple #[.bool true, .bool false, .string ⟨#[]⟩, .string ⟨#[]⟩]) ∧ Below w.heap.size w w' := by
  have HE' := Lib.hid HE
  have HT' := Lib.hid HT
  have HC' := Lib.hid HC
  clear HE HT HC
  go_enter Tryd.func16, Tryd.ntmps16
  go_wp2_with fail
  refine (HE'.out _).mono ?_
  rintro e w1 ⟨rfl, rfl⟩
  go_wp2_with fail
  refine (HT'.out _).mono ?_
  rintro e w1 ⟨rfl, rfl⟩
  go_wp2_with fail
  refine (HC'.out _).mono ?_
  rintro e w1 ⟨g, cap, rfl, hg, hgs, hcap, hmax, hB⟩
  have hB0 := Lib.hid hB
  clear hB
  go_wp2_with fail
  refine bodyPost_ret (results_tmp4 rfl _ _ _) rfl ?_
  exact ⟨rfl, hB0.out⟩
set_option maxHeartbeats 1000000 in
theorem refOf_02000 (s q z : ByteArray) (w : World) (h0 : 0 < s.size) (h3 : 3 ≤ s.size) (hs : s.size ≤ 1073741824) (h1 : (((s[0]'h0).toNat : Int) == 95) = false) (h2 : (((s[0]'h0).toNat : Int) == 46) = false) (hq : s.extract 0 (s.size - 3) = q) (hqs : q.size ≤ 1073741824) (HE : (∀ w1, Calls Tryd.prog 21 #[.string s, .string ⟨#[46, 103, 111]⟩] w1 fun e w' => e = .returned (.bool true) ∧ w1 = w')) (HT : (∀ w1, Calls Tryd.prog 21 #[.string q, .string ⟨#[95, 116, 101, 115, 116]⟩] w1 fun e w' => e = .returned (.bool false) ∧ w1 = w')) (HC : ∀ w1, Calls Tryd.prog 20 #[.string q, .int .u8 95] w1 fun e w' => ∃ g cap, e = .returned (.slice (some ⟨g, 0, none⟩) 2 cap) ∧ w1.heap.size ≤ g ∧ g < w'.heap.size ∧ 2 ≤ cap ∧ cap ≤ 9223372036854775807 ∧ Below w1.heap.size w1 w' ∧ w'.cell? ⟨g, 1, none⟩ = some (.string z)) (HS : (∀ w1, Calls Tryd.prog 9 #[.string z] w1 fun e w' => e = .returned (.bool false) ∧ Below w1.heap.size w1 w')) (HP : (∀ w1, Calls Tryd.prog 11 #[.string z] w1 fun e w' => e = .returned (.bool false) ∧ Below w1.heap.size w1 w')) :
    Calls Tryd.prog 16 #[.string s] w fun e w' => e = .returned (.tuple #[.bool true, .bool false, .string ⟨#[]⟩, .string ⟨#[]⟩]) ∧ Below w.heap.size w w' := by
  have HE' := Lib.hid HE
  have HT' := Lib.hid HT
  have HC' := Lib.hid HC
  have HS' := Lib.hid HS
  have HP' := Lib.hid HP
  clear HE HT HC HS HP
  go_enter Tryd.func16, Tryd.ntmps16
  go_wp2_with fail
  refine (HE'.out _).mono ?_
  rintro e w1 ⟨rfl, rfl⟩
  go_wp2_with fail
  refine (HT'.out _).mono ?_
  rintro e w1 ⟨rfl, rfl⟩
  go_wp2_with fail
  refine (HC'.out _).mono ?_
  rintro e w1 ⟨g, cap, rfl, hg, hgs, hcap, hmax, hB, hz⟩
  have hB0 := Lib.hid hB
  clear hB
  go_wp2_with fail
  refine (HS'.out _).mono ?_
  rintro e w2 ⟨rfl, hB⟩
  replace hz := (hB.cell (p := ⟨g, 1, none⟩) hgs).trans hz
  replace hgs := Nat.lt_of_lt_of_le hgs hB.size
  replace hB0 := Lib.hid (hB0.out.trans (hB.mono hB0.out.size))
  clear hB
  go_wp2_with fail
  refine (HP'.out _).mono ?_
  rintro e w3 ⟨rfl, hB⟩
  replace hz := (hB.cell (p := ⟨g, 1, none⟩) hgs).trans hz
  replace hgs := Nat.lt_of_lt_of_le hgs hB.size
  replace hB0 := Lib.hid (hB0.out.trans (hB.mono hB0.out.size))
  clear hB
  go_wp2_with fail
  refine bodyPost_ret (results_tmp4 rfl _ _ _) rfl ?_
  exact ⟨rfl, hB0.out⟩
set_option maxHeartbeats 1000000 in
theorem refOf_02010 (s q z : ByteArray) (w : World) (h0 : 0 < s.size) (h3 : 3 ≤ s.size) (hs : s.size ≤ 1073741824) (h1 : (((s[0]'h0).toNat : Int) == 95) = false) (h2 : (((s[0]'h0).toNat : Int) == 46) = false) (hq : s.extract 0 (s.size - 3) = q) (hqs : q.size ≤ 1073741824) (HE : (∀ w1, Calls Tryd.prog 21 #[.string s, .string ⟨#[46, 103, 111]⟩] w1 fun e w' => e = .returned (.bool true) ∧ w1 = w')) (HT : (∀ w1, Calls Tryd.prog 21 #[.string q, .string ⟨#[95, 116, 101, 115, 116]⟩] w1 fun e w' => e = .returned (.bool false) ∧ w1 = w')) (HC : ∀ w1, Calls Tryd.prog 20 #[.string q, .int .u8 95] w1 fun e w' => ∃ g cap, e = .returned (.slice (some ⟨g, 0, none⟩) 2 cap) ∧ w1.heap.size ≤ g ∧ g < w'.heap.size ∧ 2 ≤ cap ∧ cap ≤ 9223372036854775807 ∧ Below w1.heap.size w1 w' ∧ w'.cell? ⟨g, 1, none⟩ = some (.string z)) (HS : (∀ w1, Calls Tryd.prog 9 #[.string z] w1 fun e w' => e = .returned (.bool false) ∧ Below w1.heap.size w1 w')) (HP : (∀ w1, Calls Tryd.prog 11 #[.string z] w1 fun e w' => e = .returned (.bool true) ∧ Below w1.heap.size w1 w')) :
    Calls Tryd.prog 16 #[.string s] w fun e w' => e = .returned (.tuple #[.bool true, .bool false, .string ⟨#[]⟩, .string z]) ∧ Below w.heap.size w w' := by
  have HE' := Lib.hid HE
  have HT' := Lib.hid HT
  have HC' := Lib.hid HC
  have HS' := Lib.hid HS
  have HP' := Lib.hid HP
  clear HE HT HC HS HP
  go_enter Tryd.func16, Tryd.ntmps16
  go_wp2_with fail
  refine (HE'.out _).mono ?_
  rintro e w1 ⟨rfl, rfl⟩
  go_wp2_with fail
  refine (HT'.out _).mono ?_
  rintro e w1 ⟨rfl, rfl⟩
  go_wp2_with fail
  refine (HC'.out _).mono ?_
  rintro e w1 ⟨g, cap, rfl, hg, hgs, hcap, hmax, hB, hz⟩
  have hB0 := Lib.hid hB
  clear hB
  go_wp2_with fail
  refine (HS'.out _).mono ?_
  rintro e w2 ⟨rfl, hB⟩
  replace hz := (hB.cell (p := ⟨g, 1, none⟩) hgs).trans hz
  replace hgs := Nat.lt_of_lt_of_le hgs hB.size
  replace hB0 := Lib.hid (hB0.out.trans (hB.mono hB0.out.size))
  clear hB
  go_wp2_with fail
  refine (HP'.out _).mono ?_
  rintro e w3 ⟨rfl, hB⟩
  replace hz := (hB.cell (p := ⟨g, 1, none⟩) hgs).trans hz
  replace hgs := Nat.lt_of_lt_of_le hgs hB.size
  replace hB0 := Lib.hid (hB0.out.trans (hB.mono hB0.out.size))
  clear hB
  go_wp2_with fail
  go_quiet (fail)
  go_wp2_with fail
  refine bodyPost_ret (results_tmp4 rfl _ _ _) rfl ?_
  exact ⟨rfl, below_drewN hB0.out _⟩
set_option maxHeartbeats 1000000 in
theorem refOf_02001 (s q z : ByteArray) (w : World) (h0 : 0 < s.size) (h3 : 3 ≤ s.size) (hs : s.size ≤ 1073741824) (h1 : (((s[0]'h0).toNat : Int) == 95) = false) (h2 : (((s[0]'h0).toNat : Int) == 46) = false) (hq : s.extract 0 (s.size - 3) = q) (hqs : q.size ≤ 1073741824) (HE : (∀ w1, Calls Tryd.prog 21 #[.string s, .string ⟨#[46, 103, 111]⟩] w1 fun e w' => e = .returned (.bool true) ∧ w1 = w')) (HT : (∀ w1, Calls Tryd.prog 21 #[.string q, .string ⟨#[95, 116, 101, 115, 116]⟩] w1 fun e w' => e = .returned (.bool false) ∧ w1 = w')) (HC : ∀ w1, Calls Tryd.prog 20 #[.string q, .int .u8 95] w1 fun e w' => ∃ g cap, e = .returned (.slice (some ⟨g, 0, none⟩) 2 cap) ∧ w1.heap.size ≤ g ∧ g < w'.heap.size ∧ 2 ≤ cap ∧ cap ≤ 9223372036854775807 ∧ Below w1.heap.size w1 w' ∧ w'.cell? ⟨g, 1, none⟩ = some (.string z)) (HS : (∀ w1, Calls Tryd.prog 9 #[.string z] w1 fun e w' => e = .returned (.bool true) ∧ Below w1.heap.size w1 w')) :
    Calls Tryd.prog 16 #[.string s] w fun e w' => e = .returned (.tuple #[.bool true, .bool false, .string z, .string ⟨#[]⟩]) ∧ Below w.heap.size w w' := by
  have HE' := Lib.hid HE
  have HT' := Lib.hid HT
  have HC' := Lib.hid HC
  have HS' := Lib.hid HS
  clear HE HT HC HS
  go_enter Tryd.func16, Tryd.ntmps16
  go_wp2_with fail
  refine (HE'.out _).mono ?_
  rintro e w1 ⟨rfl, rfl⟩
  go_wp2_with fail
  refine (HT'.out _).mono ?_
  rintro e w1 ⟨rfl, rfl⟩
  go_wp2_with fail
  refine (HC'.out _).mono ?_
  rintro e w1 ⟨g, cap, rfl, hg, hgs, hcap, hmax, hB, hz⟩
  have hB0 := Lib.hid hB
  clear hB
  go_wp2_with fail
  refine (HS'.out _).mono ?_
  rintro e w2 ⟨rfl, hB⟩
  replace hz := (hB.cell (p := ⟨g, 1, none⟩) hgs).trans hz
  replace hgs := Nat.lt_of_lt_of_le hgs hB.size
  replace hB0 := Lib.hid (hB0.out.trans (hB.mono hB0.out.size))
  clear hB
  go_wp2_with fail
  go_quiet (fail)
  go_wp2_with fail
  refine bodyPost_ret (results_tmp4 rfl _ _ _) rfl ?_
  exact ⟨rfl, below_drewN hB0.out _⟩
set_option maxHeartbeats 1000000 in
theorem refOf_03110 (s q z y : ByteArray) (len : Nat) (w : World) (hlen : 3 ≤ len) (hlen2 : len ≤ 1073741825) (h0 : 0 < s.size) (h3 : 3 ≤ s.size) (hs : s.size ≤ 1073741824) (h1 : (((s[0]'h0).toNat : Int) == 95) = false) (h2 : (((s[0]'h0).toNat : Int) == 46) = false) (hq : s.extract 0 (s.size - 3) = q) (hqs : q.size ≤ 1073741824) (HE : (∀ w1, Calls Tryd.prog 21 #[.string s, .string ⟨#[46, 103, 111]⟩] w1 fun e w' => e = .returned (.bool true) ∧ w1 = w')) (HT : (∀ w1, Calls Tryd.prog 21 #[.string q, .string ⟨#[95, 116, 101, 115, 116]⟩] w1 fun e w' => e = .returned (.bool false) ∧ w1 = w')) (HC : ∀ w1, Calls Tryd.prog 20 #[.string q, .int .u8 95] w1 fun e w' => ∃ g cap, e = .returned (.slice (some ⟨g, 0, none⟩) len cap) ∧ w1.heap.size ≤ g ∧ g < w'.heap.size ∧ len ≤ cap ∧ cap ≤ 9223372036854775807 ∧ Below w1.heap.size w1 w' ∧ w'.cell? ⟨g, len - 1, none⟩ = some (.string z) ∧ w'.cell? ⟨g, len - 2, none⟩ = some (.string y)) (HY : (∀ w1, Calls Tryd.prog 9 #[.string y] w1 fun e w' => e = .returned (.bool true) ∧ Below w1.heap.size w1 w')) (HP : (∀ w1, Calls Tryd.prog 11 #[.string z] w1 fun e w' => e = .returned (.bool true) ∧ Below w1.heap.size w1 w')) :
    Calls Tryd.prog 16 #[.string s] w fun e w' => e = .returned (.tuple #[.bool true, .bool false, .string y, .string z]) ∧ Below w.heap.size w w' := by
  have HE' := Lib.hid HE
  have HT' := Lib.hid HT
  have HC' := Lib.hid HC
  have HY' := Lib.hid HY
  have HP' := Lib.hid HP
  clear HE HT HC HY HP
  go_enter Tryd.func16, Tryd.ntmps16
  go_wp2_with fail
  refine (HE'.out _).mono ?_
  rintro e w1 ⟨rfl, rfl⟩
  go_wp2_with fail
  refine (HT'.out _).mono ?_
  rintro e w1 ⟨rfl, rfl⟩
  go_wp2_with fail
  refine (HC'.out _).mono ?_
  rintro e w1 ⟨g, cap, rfl, hg, hgs, hcap, hmax, hB, hz, hy⟩
  have hB0 := Lib.hid hB
  clear hB
  go_wp2_with fail
  refine (HY'.out _).mono ?_
  rintro e w2 ⟨rfl, hB⟩
  replace hz := (hB.cell (p := ⟨g, len - 1, none⟩) hgs).trans hz
  replace hy := (hB.cell (p := ⟨g, len - 2, none⟩) hgs).trans hy
  replace hgs := Nat.lt_of_lt_of_le hgs hB.size
  replace hB0 := Lib.hid (hB0.out.trans (hB.mono hB0.out.size))
  clear hB
  go_wp2_with fail
  refine (HP'.out _).mono ?_
  rintro e w3 ⟨rfl, hB⟩
  replace hz := (hB.cell (p := ⟨g, len - 1, none⟩) hgs).trans hz
  replace hy := (hB.cell (p := ⟨g, len - 2, none⟩) hgs).trans hy
  replace hgs := Nat.lt_of_lt_of_le hgs hB.size
  replace hB0 := Lib.hid (hB0.out.trans (hB.mono hB0.out.size))
  clear hB
  go_wp2_with fail
  go_quiet (fail)
  go_wp2_with fail
  refine bodyPost_ret (results_tmp4 rfl _ _ _) rfl ?_
  exact ⟨rfl, below_drewN hB0.out _⟩
set_option maxHeartbeats 1000000 in
theorem refOf_03100 (s q z y : ByteArray) (len : Nat) (w : World) (hlen : 3 ≤ len) (hlen2 : len ≤ 1073741825) (h0 : 0 < s.size) (h3 : 3 ≤ s.size) (hs : s.size ≤ 1073741824) (h1 : (((s[0]'h0).toNat : Int) == 95) = false) (h2 : (((s[0]'h0).toNat : Int) == 46) = false) (hq : s.extract 0 (s.size - 3) = q) (hqs : q.size ≤ 1073741824) (HE : (∀ w1, Calls Tryd.prog 21 #[.string s, .string ⟨#[46, 103, 111]⟩] w1 fun e w' => e = .returned (.bool true) ∧ w1 = w')) (HT : (∀ w1, Calls Tryd.prog 21 #[.string q, .string ⟨#[95, 116, 101, 115, 116]⟩] w1 fun e w' => e = .returned (.bool false) ∧ w1 = w')) (HC : ∀ w1, Calls Tryd.prog 20 #[.string q, .int .u8 95] w1 fun e w' => ∃ g cap, e = .returned (.slice (some ⟨g, 0, none⟩) len cap) ∧ w1.heap.size ≤ g ∧ g < w'.heap.size ∧ len ≤ cap ∧ cap ≤ 9223372036854775807 ∧ Below w1.heap.size w1 w' ∧ w'.cell? ⟨g, len - 1, none⟩ = some (.string z) ∧ w'.cell? ⟨g, len - 2, none⟩ = some (.string y)) (HY : (∀ w1, Calls Tryd.prog 9 #[.string y] w1 fun e w' => e = .returned (.bool true) ∧ Below w1.heap.size w1 w')) (HS : (∀ w1, Calls Tryd.prog 9 #[.string z] w1 fun e w' => e = .returned (.bool false) ∧ Below w1.heap.size w1 w')) (HP : (∀ w1, Calls Tryd.prog 11 #[.string z] w1 fun e w' => e = .returned (.bool false) ∧ Below w1.heap.size w1 w')) :
    Calls Tryd.prog 16 #[.string s] w fun e w' => e = .returned (.tuple #[.bool true, .bool false, .string ⟨#[]⟩, .string ⟨#[]⟩]) ∧ Below w.heap.size w w' := by
  have HE' := Lib.hid HE
  have HT' := Lib.hid HT
  have HC' := Lib.hid HC
  have HY' := Lib.hid HY
  have HS' := Lib.hid HS
  have HP' := Lib.hid HP
  clear HE HT HC HY HS HP
  go_enter Tryd.func16, Tryd.ntmps16
  go_wp2_with fail
  refine (HE'.out _).mono ?_
  rintro e w1 ⟨rfl, rfl⟩
  go_wp2_with fail
  refine (HT'.out _).mono ?_
  rintro e w1 ⟨rfl, rfl⟩
  go_wp2_with fail
  refine (HC'.out _).mono ?_
  rintro e w1 ⟨g, cap, rfl, hg, hgs, hcap, hmax, hB, hz, hy⟩
  have hB0 := Lib.hid hB
  clear hB
  go_wp2_with fail
  refine (HY'.out _).mono ?_
  rintro e w2 ⟨rfl, hB⟩
  replace hz := (hB.cell (p := ⟨g, len - 1, none⟩) hgs).trans hz
  replace hy := (hB.cell (p := ⟨g, len - 2, none⟩) hgs).trans hy
  replace hgs := Nat.lt_of_lt_of_le hgs hB.size
  replace hB0 := Lib.hid (hB0.out.trans (hB.mono hB0.out.size))
  clear hB
  go_wp2_with fail
  refine (HP'.out _).mono ?_
  rintro e w3 ⟨rfl, hB⟩
  replace hz := (hB.cell (p := ⟨g, len - 1, none⟩) hgs).trans hz
  replace hy := (hB.cell (p := ⟨g, len - 2, none⟩) hgs).trans hy
  replace hgs := Nat.lt_of_lt_of_le hgs hB.size
  replace hB0 := Lib.hid (hB0.out.trans (hB.mono hB0.out.size))
  clear hB
  go_wp2_with fail
  refine (HS'.out _).mono ?_
  rintro e w4 ⟨rfl, hB⟩
  replace hz := (hB.cell (p := ⟨g, len - 1, none⟩) hgs).trans hz
  replace hy := (hB.cell (p := ⟨g, len - 2, none⟩) hgs).trans hy
  replace hgs := Nat.lt_of_lt_of_le hgs hB.size
  replace hB0 := Lib.hid (hB0.out.trans (hB.mono hB0.out.size))
  clear hB
  go_wp2_with fail
  refine (HP'.out _).mono ?_
  rintro e w5 ⟨rfl, hB⟩
  replace hz := (hB.cell (p := ⟨g, len - 1, none⟩) hgs).trans hz
  replace hy := (hB.cell (p := ⟨g, len - 2, none⟩) hgs).trans hy
  replace hgs := Nat.lt_of_lt_of_le hgs hB.size
  replace hB0 := Lib.hid (hB0.out.trans (hB.mono hB0.out.size))
  clear hB
  go_wp2_with fail
  refine bodyPost_ret (results_tmp4 rfl _ _ _) rfl ?_
  exact ⟨rfl, hB0.out⟩
set_option maxHeartbeats 1000000 in
theorem refOf_03101 (s q z y : ByteArray) (len : Nat) (w : World) (hlen : 3 ≤ len) (hlen2 : len ≤ 1073741825) (h0 : 0 < s.size) (h3 : 3 ≤ s.size) (hs : s.size ≤ 1073741824) (h1 : (((s[0]'h0).toNat : Int) == 95) = false) (h2 : (((s[0]'h0).toNat : Int) == 46) = false) (hq : s.extract 0 (s.size - 3) = q) (hqs : q.size ≤ 1073741824) (HE : (∀ w1, Calls Tryd.prog 21 #[.string s, .string ⟨#[46, 103, 111]⟩] w1 fun e w' => e = .returned (.bool true) ∧ w1 = w')) (HT : (∀ w1, Calls Tryd.prog 21 #[.string q, .string ⟨#[95, 116, 101, 115, 116]⟩] w1 fun e w' => e = .returned (.bool false) ∧ w1 = w')) (HC : ∀ w1, Calls Tryd.prog 20 #[.string q, .int .u8 95] w1 fun e w' => ∃ g cap, e = .returned (.slice (some ⟨g, 0, none⟩) len cap) ∧ w1.heap.size ≤ g ∧ g < w'.heap.size ∧ len ≤ cap ∧ cap ≤ 9223372036854775807 ∧ Below w1.heap.size w1 w' ∧ w'.cell? ⟨g, len - 1, none⟩ = some (.string z) ∧ w'.cell? ⟨g, len - 2, none⟩ = some (.string y)) (HY : (∀ w1, Calls Tryd.prog 9 #[.string y] w1 fun e w' => e = .returned (.bool true) ∧ Below w1.heap.size w1 w')) (HS : (∀ w1, Calls Tryd.prog 9 #[.string z] w1 fun e w' => e = .returned (.bool true) ∧ Below w1.heap.size w1 w')) (HP : (∀ w1, Calls Tryd.prog 11 #[.string z] w1 fun e w' => e = .returned (.bool false) ∧ Below w1.heap.size w1 w')) :
    Calls Tryd.prog 16 #[.string s] w fun e w' => e = .returned (.tuple #[.bool true, .bool false, .string z, .string ⟨#[]⟩]) ∧ Below w.heap.size w w' := by
  have HE' := Lib.hid HE
  have HT' := Lib.hid HT
  have HC' := Lib.hid HC
  have HY' := Lib.hid HY
  have HS' := Lib.hid HS
  have HP' := Lib.hid HP
  clear HE HT HC HY HS HP
  go_enter Tryd.func16, Tryd.ntmps16
  go_wp2_with fail
  refine (HE'.out _).mono ?_
  rintro e w1 ⟨rfl, rfl⟩
  go_wp2_with fail
  refine (HT'.out _).mono ?_
  rintro e w1 ⟨rfl, rfl⟩
  go_wp2_with fail
  refine (HC'.out _).mono ?_
  rintro e w1 ⟨g, cap, rfl, hg, hgs, hcap, hmax, hB, hz, hy⟩
  have hB0 := Lib.hid hB
  clear hB
  go_wp2_with fail
  refine (HY'.out _).mono ?_
  rintro e w2 ⟨rfl, hB⟩
  replace hz := (hB.cell (p := ⟨g, len - 1, none⟩) hgs).trans hz
  replace hy := (hB.cell (p := ⟨g, len - 2, none⟩) hgs).trans hy
  replace hgs := Nat.lt_of_lt_of_le hgs hB.size
  replace hB0 := Lib.hid (hB0.out.trans (hB.mono hB0.out.size))
  clear hB
  go_wp2_with fail
  refine (HP'.out _).mono ?_
  rintro e w3 ⟨rfl, hB⟩
  replace hz := (hB.cell (p := ⟨g, len - 1, none⟩) hgs).trans hz
  replace hy := (hB.cell (p := ⟨g, len - 2, none⟩) hgs).trans hy
  replace hgs := Nat.lt_of_lt_of_le hgs hB.size
  replace hB0 := Lib.hid (hB0.out.trans (hB.mono hB0.out.size))
  clear hB
  go_wp2_with fail
  refine (HS'.out _).mono ?_
  rintro e w4 ⟨rfl, hB⟩
  replace hz := (hB.cell (p := ⟨g, len - 1, none⟩) hgs).trans hz
  replace hy := (hB.cell (p := ⟨g, len - 2, none⟩) hgs).trans hy
  replace hgs := Nat.lt_of_lt_of_le hgs hB.size
  replace hB0 := Lib.hid (hB0.out.trans (hB.mono hB0.out.size))
  clear hB
  go_wp2_with fail
  go_quiet (fail)
  go_wp2_with fail
  refine bodyPost_ret (results_tmp4 rfl _ _ _) rfl ?_
  exact ⟨rfl, below_drewN hB0.out _⟩
set_option maxHeartbeats 1000000 in
theorem refOf_03000 (s q z y : ByteArray) (len : Nat) (w : World) (hlen : 3 ≤ len) (hlen2 : len ≤ 1073741825) (h0 : 0 < s.size) (h3 : 3 ≤ s.size) (hs : s.size ≤ 1073741824) (h1 : (((s[0]'h0).toNat : Int) == 95) = false) (h2 : (((s[0]'h0).toNat : Int) == 46) = false) (hq : s.extract 0 (s.size - 3) = q) (hqs : q.size ≤ 1073741824) (HE : (∀ w1, Calls Tryd.prog 21 #[.string s, .string ⟨#[46, 103, 111]⟩] w1 fun e w' => e = .returned (.bool true) ∧ w1 = w')) (HT : (∀ w1, Calls Tryd.prog 21 #[.string q, .string ⟨#[95, 116, 101, 115, 116]⟩] w1 fun e w' => e = .returned (.bool false) ∧ w1 = w')) (HC : ∀ w1, Calls Tryd.prog 20 #[.string q, .int .u8 95] w1 fun e w' => ∃ g cap, e = .returned (.slice (some ⟨g, 0, none⟩) len cap) ∧ w1.heap.size ≤ g ∧ g < w'.heap.size ∧ len ≤ cap ∧ cap ≤ 9223372036854775807 ∧ Below w1.heap.size w1 w' ∧ w'.cell? ⟨g, len - 1, none⟩ = some (.string z) ∧ w'.cell? ⟨g, len - 2, none⟩ = some (.string y)) (HY : (∀ w1, Calls Tryd.prog 9 #[.string y] w1 fun e w' => e = .returned (.bool false) ∧ Below w1.heap.size w1 w')) (HS : (∀ w1, Calls Tryd.prog 9 #[.string z] w1 fun e w' => e = .returned (.bool false) ∧ Below w1.heap.size w1 w')) (HP : (∀ w1, Calls Tryd.prog 11 #[.string z] w1 fun e w' => e = .returned (.bool false) ∧ Below w1.heap.size w1 w')) :
    Calls Tryd.prog 16 #[.string s] w fun e w' => e = .returned (.tuple #[.bool true, .bool false, .string ⟨#[]⟩, .string ⟨#[]⟩]) ∧ Below w.heap.size w w' := by
  have HE' := Lib.hid HE
  have HT' := Lib.hid HT
  have HC' := Lib.hid HC
  have HY' := Lib.hid HY
  have HS' := Lib.hid HS
  have HP' := Lib.hid HP
  clear HE HT HC HY HS HP
  go_enter Tryd.func16, Tryd.ntmps16
  go_wp2_with fail
  refine (HE'.out _).mono ?_
  rintro e w1 ⟨rfl, rfl⟩
  go_wp2_with fail
  refine (HT'.out _).mono ?_
  rintro e w1 ⟨rfl, rfl⟩
  go_wp2_with fail
  refine (HC'.out _).mono ?_
  rintro e w1 ⟨g, cap, rfl, hg, hgs, hcap, hmax, hB, hz, hy⟩
  have hB0 := Lib.hid hB
  clear hB
  go_wp2_with fail
  refine (HY'.out _).mono ?_
  rintro e w2 ⟨rfl, hB⟩
  replace hz := (hB.cell (p := ⟨g, len - 1, none⟩) hgs).trans hz
  replace hy := (hB.cell (p := ⟨g, len - 2, none⟩) hgs).trans hy
  replace hgs := Nat.lt_of_lt_of_le hgs hB.size
  replace hB0 := Lib.hid (hB0.out.trans (hB.mono hB0.out.size))
  clear hB
  go_wp2_with fail
  refine (HS'.out _).mono ?_
  rintro e w3 ⟨rfl, hB⟩
  replace hz := (hB.cell (p := ⟨g, len - 1, none⟩) hgs).trans hz
  replace hy := (hB.cell (p := ⟨g, len - 2, none⟩) hgs).trans hy
  replace hgs := Nat.lt_of_lt_of_le hgs hB.size
  replace hB0 := Lib.hid (hB0.out.trans (hB.mono hB0.out.size))
  clear hB
  go_wp2_with fail
  refine (HP'.out _).mono ?_
  rintro e w4 ⟨rfl, hB⟩
  replace hz := (hB.cell (p := ⟨g, len - 1, none⟩) hgs).trans hz
  replace hy := (hB.cell (p := ⟨g, len - 2, none⟩) hgs).trans hy
  replace hgs := Nat.lt_of_lt_of_le hgs hB.size
  replace hB0 := Lib.hid (hB0.out.trans (hB.mono hB0.out.size))
  clear hB
  go_wp2_with fail
  refine bodyPost_ret (results_tmp4 rfl _ _ _) rfl ?_
  exact ⟨rfl, hB0.out⟩
set_option maxHeartbeats 1000000 in
theorem refOf_03001 (s q z y : ByteArray) (len : Nat) (w : World) (hlen : 3 ≤ len) (hlen2 : len ≤ 1073741825) (h0 : 0 < s.size) (h3 : 3 ≤ s.size) (hs : s.size ≤ 1073741824) (h1 : (((s[0]'h0).toNat : Int) == 95) = false) (h2 : (((s[0]'h0).toNat : Int) == 46) = false) (hq : s.extract 0 (s.size - 3) = q) (hqs : q.size ≤ 1073741824) (HE : (∀ w1, Calls Tryd.prog 21 #[.string s, .string ⟨#[46, 103, 111]⟩] w1 fun e w' => e = .returned (.bool true) ∧ w1 = w')) (HT : (∀ w1, Calls Tryd.prog 21 #[.string q, .string ⟨#[95, 116, 101, 115, 116]⟩] w1 fun e w' => e = .returned (.bool false) ∧ w1 = w')) (HC : ∀ w1, Calls Tryd.prog 20 #[.string q, .int .u8 95] w1 fun e w' => ∃ g cap, e = .returned (.slice (some ⟨g, 0, none⟩) len cap) ∧ w1.heap.size ≤ g ∧ g < w'.heap.size ∧ len ≤ cap ∧ cap ≤ 9223372036854775807 ∧ Below w1.heap.size w1 w' ∧ w'.cell? ⟨g, len - 1, none⟩ = some (.string z) ∧ w'.cell? ⟨g, len - 2, none⟩ = some (.string y)) (HY : (∀ w1, Calls Tryd.prog 9 #[.string y] w1 fun e w' => e = .returned (.bool false) ∧ Below w1.heap.size w1 w')) (HS : (∀ w1, Calls Tryd.prog 9 #[.string z] w1 fun e w' => e = .returned (.bool true) ∧ Below w1.heap.size w1 w')) :
    Calls Tryd.prog 16 #[.string s] w fun e w' => e = .returned (.tuple #[.bool true, .bool false, .string z, .string ⟨#[]⟩]) ∧ Below w.heap.size w w' := by
  have HE' := Lib.hid HE
  have HT' := Lib.hid HT
  have HC' := Lib.hid HC
  have HY' := Lib.hid HY
  have HS' := Lib.hid HS
  clear HE HT HC HY HS
  go_enter Tryd.func16, Tryd.ntmps16
  go_wp2_with fail
  refine (HE'.out _).mono ?_
  rintro e w1 ⟨rfl, rfl⟩
  go_wp2_with fail
  refine (HT'.out _).mono ?_
  rintro e w1 ⟨rfl, rfl⟩
  go_wp2_with fail
  refine (HC'.out _).mono ?_
  rintro e w1 ⟨g, cap, rfl, hg, hgs, hcap, hmax, hB, hz, hy⟩
  have hB0 := Lib.hid hB
  clear hB
  go_wp2_with fail
  refine (HY'.out _).mono ?_
  rintro e w2 ⟨rfl, hB⟩
  replace hz := (hB.cell (p := ⟨g, len - 1, none⟩) hgs).trans hz
  replace hy := (hB.cell (p := ⟨g, len - 2, none⟩) hgs).trans hy
  replace hgs := Nat.lt_of_lt_of_le hgs hB.size
  replace hB0 := Lib.hid (hB0.out.trans (hB.mono hB0.out.size))
  clear hB
  go_wp2_with fail
  refine (HS'.out _).mono ?_
  rintro e w3 ⟨rfl, hB⟩
  replace hz := (hB.cell (p := ⟨g, len - 1, none⟩) hgs).trans hz
  replace hy := (hB.cell (p := ⟨g, len - 2, none⟩) hgs).trans hy
  replace hgs := Nat.lt_of_lt_of_le hgs hB.size
  replace hB0 := Lib.hid (hB0.out.trans (hB.mono hB0.out.size))
  clear hB
  go_wp2_with fail
  go_quiet (fail)
  go_wp2_with fail
  refine bodyPost_ret (results_tmp4 rfl _ _ _) rfl ?_
  exact ⟨rfl, below_drewN hB0.out _⟩
set_option maxHeartbeats 1000000 in
theorem refOf_03010 (s q z y : ByteArray) (len : Nat) (w : World) (hlen : 3 ≤ len) (hlen2 : len ≤ 1073741825) (h0 : 0 < s.size) (h3 : 3 ≤ s.size) (hs : s.size ≤ 1073741824) (h1 : (((s[0]'h0).toNat : Int) == 95) = false) (h2 : (((s[0]'h0).toNat : Int) == 46) = false) (hq : s.extract 0 (s.size - 3) = q) (hqs : q.size ≤ 1073741824) (HE : (∀ w1, Calls Tryd.prog 21 #[.string s, .string ⟨#[46, 103, 111]⟩] w1 fun e w' => e = .returned (.bool true) ∧ w1 = w')) (HT : (∀ w1, Calls Tryd.prog 21 #[.string q, .string ⟨#[95, 116, 101, 115, 116]⟩] w1 fun e w' => e = .returned (.bool false) ∧ w1 = w')) (HC : ∀ w1, Calls Tryd.prog 20 #[.string q, .int .u8 95] w1 fun e w' => ∃ g cap, e = .returned (.slice (some ⟨g, 0, none⟩) len cap) ∧ w1.heap.size ≤ g ∧ g < w'.heap.size ∧ len ≤ cap ∧ cap ≤ 9223372036854775807 ∧ Below w1.heap.size w1 w' ∧ w'.cell? ⟨g, len - 1, none⟩ = some (.string z) ∧ w'.cell? ⟨g, len - 2, none⟩ = some (.string y)) (HY : (∀ w1, Calls Tryd.prog 9 #[.string y] w1 fun e w' => e = .returned (.bool false) ∧ Below w1.heap.size w1 w')) (HS : (∀ w1, Calls Tryd.prog 9 #[.string z] w1 fun e w' => e = .returned (.bool false) ∧ Below w1.heap.size w1 w')) (HP : (∀ w1, Calls Tryd.prog 11 #[.string z] w1 fun e w' => e = .returned (.bool true) ∧ Below w1.heap.size w1 w')) :
    Calls Tryd.prog 16 #[.string s] w fun e w' => e = .returned (.tuple #[.bool true, .bool false, .string ⟨#[]⟩, .string z]) ∧ Below w.heap.size w w' := by
  have HE' := Lib.hid HE
  have HT' := Lib.hid HT
  have HC' := Lib.hid HC
  have HY' := Lib.hid HY
  have HS' := Lib.hid HS
  have HP' := Lib.hid HP
  clear HE HT HC HY HS HP
  go_enter Tryd.func16, Tryd.ntmps16
  go_wp2_with fail
  refine (HE'.out _).mono ?_
  rintro e w1 ⟨rfl, rfl⟩
  go_wp2_with fail
  refine (HT'.out _).mono ?_
  rintro e w1 ⟨rfl, rfl⟩
  go_wp2_with fail
  refine (HC'.out _).mono ?_
  rintro e w1 ⟨g, cap, rfl, hg, hgs, hcap, hmax, hB, hz, hy⟩
  have hB0 := Lib.hid hB
  clear hB
  go_wp2_with fail
  refine (HY'.out _).mono ?_
  rintro e w2 ⟨rfl, hB⟩
  replace hz := (hB.cell (p := ⟨g, len - 1, none⟩) hgs).trans hz
  replace hy := (hB.cell (p := ⟨g, len - 2, none⟩) hgs).trans hy
  replace hgs := Nat.lt_of_lt_of_le hgs hB.size
  replace hB0 := Lib.hid (hB0.out.trans (hB.mono hB0.out.size))
  clear hB
  go_wp2_with fail
  refine (HS'.out _).mono ?_
  rintro e w3 ⟨rfl, hB⟩
  replace hz := (hB.cell (p := ⟨g, len - 1, none⟩) hgs).trans hz
  replace hy := (hB.cell (p := ⟨g, len - 2, none⟩) hgs).trans hy
  replace hgs := Nat.lt_of_lt_of_le hgs hB.size
  replace hB0 := Lib.hid (hB0.out.trans (hB.mono hB0.out.size))
  clear hB
  go_wp2_with fail
  refine (HP'.out _).mono ?_
  rintro e w4 ⟨rfl, hB⟩
  replace hz := (hB.cell (p := ⟨g, len - 1, none⟩) hgs).trans hz
  replace hy := (hB.cell (p := ⟨g, len - 2, none⟩) hgs).trans hy
  replace hgs := Nat.lt_of_lt_of_le hgs hB.size
  replace hB0 := Lib.hid (hB0.out.trans (hB.mono hB0.out.size))
  clear hB
  go_wp2_with fail
  go_quiet (fail)
  go_wp2_with fail
  refine bodyPost_ret (results_tmp4 rfl _ _ _) rfl ?_
  exact ⟨rfl, below_drewN hB0.out _⟩
set_option maxHeartbeats 1000000 in
theorem refOf_11000 (s q r : ByteArray) (w : World) (h0 : 0 < s.size) (h3 : 3 ≤ s.size) (hs : s.size ≤ 1073741824) (h1 : (((s[0]'h0).toNat : Int) == 95) = false) (h2 : (((s[0]'h0).toNat : Int) == 46) = false) (hq : s.extract 0 (s.size - 3) = q) (hqs : q.size ≤ 1073741824) (h5 : 5 ≤ q.size) (hr : q.extract 0 (q.size - 5) = r) (HE : (∀ w1, Calls Tryd.prog 21 #[.string s, .string ⟨#[46, 103, 111]⟩] w1 fun e w' => e = .returned (.bool true) ∧ w1 = w')) (HT : (∀ w1, Calls Tryd.prog 21 #[.string q, .string ⟨#[95, 116, 101, 115, 116]⟩] w1 fun e w' => e = .returned (.bool true) ∧ w1 = w')) (HC : ∀ w1, Calls Tryd.prog 20 #[.string r, .int .u8 95] w1 fun e w' => ∃ g cap, e = .returned (.slice (some ⟨g, 0, none⟩) 1 cap) ∧ w1.heap.size ≤ g ∧ g < w'.heap.size ∧ 1 ≤ cap ∧ cap ≤ 9223372036854775807 ∧ Below w1.heap.size w1 w') :
    Calls Tryd.prog 16 #[.string s] w fun e w' => e = .returned (.tuple #[.bool true, .bool true, .string ⟨#[]⟩, .string ⟨#[]⟩]) ∧ Below w.heap.size w w' := by
  have HE' := Lib.hid HE
  have HT' := Lib.hid HT
  have HC' := Lib.hid HC
  clear HE HT HC
  go_enter Tryd.func16, Tryd.ntmps16
  go_wp2_with fail
  refine (HE'.out _).mono ?_
  rintro e w1 ⟨rfl, rfl⟩
  go_wp2_with fail
  refine (HT'.out _).mono ?_
  rintro e w1 ⟨rfl, rfl⟩
  go_wp2_with fail
  refine (HC'.out _).mono ?_
  rintro e w1 ⟨g, cap, rfl, hg, hgs, hcap, hmax, hB⟩
  have hB0 := Lib.hid hB
  clear hB
  go_wp2_with fail
  refine bodyPost_ret (results_tmp4 rfl _ _ _) rfl ?_
  exact ⟨rfl, hB0.out⟩
set_option maxHeartbeats 1000000 in
theorem refOf_12000 (s q r z : ByteArray) (w : World) (h0 : 0 < s.size) (h3 : 3 ≤ s.size) (hs : s.size ≤ 1073741824) (h1 : (((s[0]'h0).toNat : Int) == 95) = false) (h2 : (((s[0]'h0).toNat : Int) == 46) = false) (hq : s.extract 0 (s.size - 3) = q) (hqs : q.size ≤ 1073741824) (h5 : 5 ≤ q.size) (hr : q.extract 0 (q.size - 5) = r) (HE : (∀ w1, Calls Tryd.prog 21 #[.string s, .string ⟨#[46, 103, 111]⟩] w1 fun e w' => e = .returned (.bool true) ∧ w1 = w')) (HT : (∀ w1, Calls Tryd.prog 21 #[.string q, .string ⟨#[95, 116, 101, 115, 116]⟩] w1 fun e w' => e = .returned (.bool true) ∧ w1 = w')) (HC : ∀ w1, Calls Tryd.prog 20 #[.string r, .int .u8 95] w1 fun e w' => ∃ g cap, e = .returned (.slice (some ⟨g, 0, none⟩) 2 cap) ∧ w1.heap.size ≤ g ∧ g < w'.heap.size ∧ 2 ≤ cap ∧ cap ≤ 9223372036854775807 ∧ Below w1.heap.size w1 w' ∧ w'.cell? ⟨g, 1, none⟩ = some (.string z)) (HS : (∀ w1, Calls Tryd.prog 9 #[.string z] w1 fun e w' => e = .returned (.bool false) ∧ Below w1.heap.size w1 w')) (HP : (∀ w1, Calls Tryd.prog 11 #[.string z] w1 fun e w' => e = .returned (.bool false) ∧ Below w1.heap.size w1 w')) :
    Calls Tryd.prog 16 #[.string s] w fun e w' => e = .returned (.tuple #[.bool true, .bool true, .string ⟨#[]⟩, .string ⟨#[]⟩]) ∧ Below w.heap.size w w' := by
  have HE' := Lib.hid HE
  have HT' := Lib.hid HT
  have HC' := Lib.hid HC
  have HS' := Lib.hid HS
  have HP' := Lib.hid HP
  clear HE HT HC HS HP
  go_enter Tryd.func16, Tryd.ntmps16
  go_wp2_with fail
  refine (HE'.out _).mono ?_
  rintro e w1 ⟨rfl, rfl⟩
  go_wp2_with fail
  refine (HT'.out _).mono ?_
  rintro e w1 ⟨rfl, rfl⟩
  go_wp2_with fail
  refine (HC'.out _).mono ?_
  rintro e w1 ⟨g, cap, rfl, hg, hgs, hcap, hmax, hB, hz⟩
  have hB0 := Lib.hid hB
  clear hB
  go_wp2_with fail
  refine (HS'.out _).mono ?_
  rintro e w2 ⟨rfl, hB⟩
  replace hz := (hB.cell (p := ⟨g, 1, none⟩) hgs).trans hz
  replace hgs := Nat.lt_of_lt_of_le hgs hB.size
  replace hB0 := Lib.hid (hB0.out.trans (hB.mono hB0.out.size))
  clear hB
  go_wp2_with fail
  refine (HP'.out _).mono ?_
  rintro e w3 ⟨rfl, hB⟩
  replace hz := (hB.cell (p := ⟨g, 1, none⟩) hgs).trans hz
  replace hgs := Nat.lt_of_lt_of_le hgs hB.size
  replace hB0 := Lib.hid (hB0.out.trans (hB.mono hB0.out.size))
  clear hB
  go_wp2_with fail
  refine bodyPost_ret (results_tmp4 rfl _ _ _) rfl ?_
  exact ⟨rfl, hB0.out⟩
set_option maxHeartbeats 1000000 in
theorem refOf_12010 (s q r z : ByteArray) (w : World) (h0 : 0 < s.size) (h3 : 3 ≤ s.size) (hs : s.size ≤ 1073741824) (h1 : (((s[0]'h0).toNat : Int) == 95) = false) (h2 : (((s[0]'h0).toNat : Int) == 46) = false) (hq : s.extract 0 (s.size - 3) = q) (hqs : q.size ≤ 1073741824) (h5 : 5 ≤ q.size) (hr : q.extract 0 (q.size - 5) = r) (HE : (∀ w1, Calls Tryd.prog 21 #[.string s, .string ⟨#[46, 103, 111]⟩] w1 fun e w' => e = .returned (.bool true) ∧ w1 = w')) (HT : (∀ w1, Calls Tryd.prog 21 #[.string q, .string ⟨#[95, 116, 101, 115, 116]⟩] w1 fun e w' => e = .returned (.bool true) ∧ w1 = w')) (HC : ∀ w1, Calls Tryd.prog 20 #[.string r, .int .u8 95] w1 fun e w' => ∃ g cap, e = .returned (.slice (some ⟨g, 0, none⟩) 2 cap) ∧ w1.heap.size ≤ g ∧ g < w'.heap.size ∧ 2 ≤ cap ∧ cap ≤ 9223372036854775807 ∧ Below w1.heap.size w1 w' ∧ w'.cell? ⟨g, 1, none⟩ = some (.string z)) (HS : (∀ w1, Calls Tryd.prog 9 #[.string z] w1 fun e w' => e = .returned (.bool false) ∧ Below w1.heap.size w1 w')) (HP : (∀ w1, Calls Tryd.prog 11 #[.string z] w1 fun e w' => e = .returned (.bool true) ∧ Below w1.heap.size w1 w')) :
    Calls Tryd.prog 16 #[.string s] w fun e w' => e = .returned (.tuple #[.bool true, .bool true, .string ⟨#[]⟩, .string z]) ∧ Below w.heap.size w w' := by
  have HE' := Lib.hid HE
  have HT' := Lib.hid HT
  have HC' := Lib.hid HC
  have HS' := Lib.hid HS
  have HP' := Lib.hid HP
  clear HE HT HC HS HP
  go_enter Tryd.func16, Tryd.ntmps16
  go_wp2_with fail
  refine (HE'.out _).mono ?_
  rintro e w1 ⟨rfl, rfl⟩
  go_wp2_with fail
  refine (HT'.out _).mono ?_
  rintro e w1 ⟨rfl, rfl⟩
  go_wp2_with fail
  refine (HC'.out _).mono ?_
  rintro e w1 ⟨g, cap, rfl, hg, hgs, hcap, hmax, hB, hz⟩
  have hB0 := Lib.hid hB
  clear hB
  go_wp2_with fail
  refine (HS'.out _).mono ?_
  rintro e w2 ⟨rfl, hB⟩
  replace hz := (hB.cell (p := ⟨g, 1, none⟩) hgs).trans hz
  replace hgs := Nat.lt_of_lt_of_le hgs hB.size
  replace hB0 := Lib.hid (hB0.out.trans (hB.mono hB0.out.size))
  clear hB
  go_wp2_with fail
  refine (HP'.out _).mono ?_
  rintro e w3 ⟨rfl, hB⟩
  replace hz := (hB.cell (p := ⟨g, 1, none⟩) hgs).trans hz
  replace hgs := Nat.lt_of_lt_of_le hgs hB.size
  replace hB0 := Lib.hid (hB0.out.trans (hB.mono hB0.out.size))
  clear hB
  go_wp2_with fail
  go_quiet (fail)
  go_wp2_with fail
  refine bodyPost_ret (results_tmp4 rfl _ _ _) rfl ?_
  exact ⟨rfl, below_drewN hB0.out _⟩
set_option maxHeartbeats 1000000 in
theorem refOf_12001 (s q r z : ByteArray) (w : World) (h0 : 0 < s.size) (h3 : 3 ≤ s.size) (hs : s.size ≤ 1073741824) (h1 : (((s[0]'h0).toNat : Int) == 95) = false) (h2 : (((s[0]'h0).toNat : Int) == 46) = false) (hq : s.extract 0 (s.size - 3) = q) (hqs : q.size ≤ 1073741824) (h5 : 5 ≤ q.size) (hr : q.extract 0 (q.size - 5) = r) (HE : (∀ w1, Calls Tryd.prog 21 #[.string s, .string ⟨#[46, 103, 111]⟩] w1 fun e w' => e = .returned (.bool true) ∧ w1 = w')) (HT : (∀ w1, Calls Tryd.prog 21 #[.string q, .string ⟨#[95, 116, 101, 115, 116]⟩] w1 fun e w' => e = .returned (.bool true) ∧ w1 = w')) (HC : ∀ w1, Calls Tryd.prog 20 #[.string r, .int .u8 95] w1 fun e w' => ∃ g cap, e = .returned (.slice (some ⟨g, 0, none⟩) 2 cap) ∧ w1.heap.size ≤ g ∧ g < w'.heap.size ∧ 2 ≤ cap ∧ cap ≤ 9223372036854775807 ∧ Below w1.heap.size w1 w' ∧ w'.cell? ⟨g, 1, none⟩ = some (.string z)) (HS : (∀ w1, Calls Tryd.prog 9 #[.string z] w1 fun e w' => e = .returned (.bool true) ∧ Below w1.heap.size w1 w')) :
    Calls Tryd.prog 16 #[.string s] w fun e w' => e = .returned (.tuple #[.bool true, .bool true, .string z, .string ⟨#[]⟩]) ∧ Below w.heap.size w w' := by
  have HE' := Lib.hid HE
  have HT' := Lib.hid HT
  have HC' := Lib.hid HC
  have HS' := Lib.hid HS
  clear HE HT HC HS
  go_enter Tryd.func16, Tryd.ntmps16
  go_wp2_with fail
  refine (HE'.out _).mono ?_
  rintro e w1 ⟨rfl, rfl⟩
  go_wp2_with fail
  refine (HT'.out _).mono ?_
  rintro e w1 ⟨rfl, rfl⟩
  go_wp2_with fail
  refine (HC'.out _).mono ?_
  rintro e w1 ⟨g, cap, rfl, hg, hgs, hcap, hmax, hB, hz⟩
  have hB0 := Lib.hid hB
  clear hB
  go_wp2_with fail
  refine (HS'.out _).mono ?_
  rintro e w2 ⟨rfl, hB⟩
  replace hz := (hB.cell (p := ⟨g, 1, none⟩) hgs).trans hz
  replace hgs := Nat.lt_of_lt_of_le hgs hB.size
  replace hB0 := Lib.hid (hB0.out.trans (hB.mono hB0.out.size))
  clear hB
  go_wp2_with fail
  go_quiet (fail)
  go_wp2_with fail
  refine bodyPost_ret (results_tmp4 rfl _ _ _) rfl ?_
  exact ⟨rfl, below_drewN hB0.out _⟩
set_option maxHeartbeats 1000000 in
theorem refOf_13110 (s q r z y : ByteArray) (len : Nat) (w : World) (hlen : 3 ≤ len) (hlen2 : len ≤ 1073741825) (h0 : 0 < s.size) (h3 : 3 ≤ s.size) (hs : s.size ≤ 1073741824) (h1 : (((s[0]'h0).toNat : Int) == 95) = false) (h2 : (((s[0]'h0).toNat : Int) == 46) = false) (hq : s.extract 0 (s.size - 3) = q) (hqs : q.size ≤ 1073741824) (h5 : 5 ≤ q.size) (hr : q.extract 0 (q.size - 5) = r) (HE : (∀ w1, Calls Tryd.prog 21 #[.string s, .string ⟨#[46, 103, 111]⟩] w1 fun e w' => e = .returned (.bool true) ∧ w1 = w')) (HT : (∀ w1, Calls Tryd.prog 21 #[.string q, .string ⟨#[95, 116, 101, 115, 116]⟩] w1 fun e w' => e = .returned (.bool true) ∧ w1 = w')) (HC : ∀ w1, Calls Tryd.prog 20 #[.string r, .int .u8 95] w1 fun e w' => ∃ g cap, e = .returned (.slice (some ⟨g, 0, none⟩) len cap) ∧ w1.heap.size ≤ g ∧ g < w'.heap.size ∧ len ≤ cap ∧ cap ≤ 9223372036854775807 ∧ Below w1.heap.size w1 w' ∧ w'.cell? ⟨g, len - 1, none⟩ = some (.string z) ∧ w'.cell? ⟨g, len - 2, none⟩ = some (.string y)) (HY : (∀ w1, Calls Tryd.prog 9 #[.string y] w1 fun e w' => e = .returned (.bool true) ∧ Below w1.heap.size w1 w')) (HP : (∀ w1, Calls Tryd.prog 11 #[.string z] w1 fun e w' => e = .returned (.bool true) ∧ Below w1.heap.size w1 w')) :
    Calls Tryd.prog 16 #[.string s] w fun e w' => e = .returned (.tuple #[.bool true, .bool true, .string y, .string z]) ∧ Below w.heap.size w w' := by
  have HE' := Lib.hid HE
  have HT' := Lib.hid HT
  have HC' := Lib.hid HC
  have HY' := Lib.hid HY
  have HP' := Lib.hid HP
  clear HE HT HC HY HP
  go_enter Tryd.func16, Tryd.ntmps16
  go_wp2_with fail
  refine (HE'.out _).mono ?_
  rintro e w1 ⟨rfl, rfl⟩
  go_wp2_with fail
  refine (HT'.out _).mono ?_
  rintro e w1 ⟨rfl, rfl⟩
  go_wp2_with fail
  refine (HC'.out _).mono ?_
  rintro e w1 ⟨g, cap, rfl, hg, hgs, hcap, hmax, hB, hz, hy⟩
  have hB0 := Lib.hid hB
  clear hB
  go_wp2_with fail
  refine (HY'.out _).mono ?_
  rintro e w2 ⟨rfl, hB⟩
  replace hz := (hB.cell (p := ⟨g, len - 1, none⟩) hgs).trans hz
  replace hy := (hB.cell (p := ⟨g, len - 2, none⟩) hgs).trans hy
  replace hgs := Nat.lt_of_lt_of_le hgs hB.size
  replace hB0 := Lib.hid (hB0.out.trans (hB.mono hB0.out.size))
  clear hB
  go_wp2_with fail
  refine (HP'.out _).mono ?_
  rintro e w3 ⟨rfl, hB⟩
  replace hz := (hB.cell (p := ⟨g, len - 1, none⟩) hgs).trans hz
  replace hy := (hB.cell (p := ⟨g, len - 2, none⟩) hgs).trans hy
  replace hgs := Nat.lt_of_lt_of_le hgs hB.size
  replace hB0 := Lib.hid (hB0.out.trans (hB.mono hB0.out.size))
  clear hB
  go_wp2_with fail
  go_quiet (fail)
  go_wp2_with fail
  refine bodyPost_ret (results_tmp4 rfl _ _ _) rfl ?_
  exact ⟨rfl, below_drewN hB0.out _⟩
set_option maxHeartbeats 1000000 in
theorem refOf_13100 (s q r z y : ByteArray) (len : Nat) (w : World) (hlen : 3 ≤ len) (hlen2 : len ≤ 1073741825) (h0 : 0 < s.size) (h3 : 3 ≤ s.size) (hs : s.size ≤ 1073741824) (h1 : (((s[0]'h0).toNat : Int) == 95) = false) (h2 : (((s[0]'h0).toNat : Int) == 46) = false) (hq : s.extract 0 (s.size - 3) = q) (hqs : q.size ≤ 1073741824) (h5 : 5 ≤ q.size) (hr : q.extract 0 (q.size - 5) = r) (HE : (∀ w1, Calls Tryd.prog 21 #[.string s, .string ⟨#[46, 103, 111]⟩] w1 fun e w' => e = .returned (.bool true) ∧ w1 = w')) (HT : (∀ w1, Calls Tryd.prog 21 #[.string q, .string ⟨#[95, 116, 101, 115, 116]⟩] w1 fun e w' => e = .returned (.bool true) ∧ w1 = w')) (HC : ∀ w1, Calls Tryd.prog 20 #[.string r, .int .u8 95] w1 fun e w' => ∃ g cap, e = .returned (.slice (some ⟨g, 0, none⟩) len cap) ∧ w1.heap.size ≤ g ∧ g < w'.heap.size ∧ len ≤ cap ∧ cap ≤ 9223372036854775807 ∧ Below w1.heap.size w1 w' ∧ w'.cell? ⟨g, len - 1, none⟩ = some (.string z) ∧ w'.cell? ⟨g, len - 2, none⟩ = some (.string y)) (HY : (∀ w1, Calls Tryd.prog 9 #[.string y] w1 fun e w' => e = .returned (.bool true) ∧ Below w1.heap.size w1 w')) (HS : (∀ w1, Calls Tryd.prog 9 #[.string z] w1 fun e w' => e = .returned (.bool false) ∧ Below w1.heap.size w1 w')) (HP : (∀ w1, Calls Tryd.prog 11 #[.string z] w1 fun e w' => e = .returned (.bool false) ∧ Below w1.heap.size w1 w')) :
    Calls Tryd.prog 16 #[.string s] w fun e w' => e = .returned (.tuple #[.bool true, .bool true, .string ⟨#[]⟩, .string ⟨#[]⟩]) ∧ Below w.heap.size w w' := by
  have HE' := Lib.hid HE
  have HT' := Lib.hid HT
  have HC' := Lib.hid HC
  have HY' := Lib.hid HY
  have HS' := Lib.hid HS
  have HP' := Lib.hid HP
  clear HE HT HC HY HS HP
  go_enter Tryd.func16, Tryd.ntmps16
  go_wp2_with fail
  refine (HE'.out _).mono ?_
  rintro e w1 ⟨rfl, rfl⟩
  go_wp2_with fail
  refine (HT'.out _).mono ?_
  rintro e w1 ⟨rfl, rfl⟩
  go_wp2_with fail
  refine (HC'.out _).mono ?_
  rintro e w1 ⟨g, cap, rfl, hg, hgs, hcap, hmax, hB, hz, hy⟩
  have hB0 := Lib.hid hB
  clear hB
  go_wp2_with fail
  refine (HY'.out _).mono ?_
  rintro e w2 ⟨rfl, hB⟩
  replace hz := (hB.cell (p := ⟨g, len - 1, none⟩) hgs).trans hz
  replace hy := (hB.cell (p := ⟨g, len - 2, none⟩) hgs).trans hy
  replace hgs := Nat.lt_of_lt_of_le hgs hB.size
  replace hB0 := Lib.hid (hB0.out.trans (hB.mono hB0.out.size))
  clear hB
  go_wp2_with fail
  refine (HP'.out _).mono ?_
  rintro e w3 ⟨rfl, hB⟩
  replace hz := (hB.cell (p := ⟨g, len - 1, none⟩) hgs).trans hz
  replace hy := (hB.cell (p := ⟨g, len - 2, none⟩) hgs).trans hy
  replace hgs := Nat.lt_of_lt_of_le hgs hB.size
  replace hB0 := Lib.hid (hB0.out.trans (hB.mono hB0.out.size))
  clear hB
  go_wp2_with fail
  refine (HS'.out _).mono ?_
  rintro e w4 ⟨rfl, hB⟩
  replace hz := (hB.cell (p := ⟨g, len - 1, none⟩) hgs).trans hz
  replace hy := (hB.cell (p := ⟨g, len - 2, none⟩) hgs).trans hy
  replace hgs := Nat.lt_of_lt_of_le hgs hB.size
  replace hB0 := Lib.hid (hB0.out.trans (hB.mono hB0.out.size))
  clear hB
  go_wp2_with fail
  refine (HP'.out _).mono ?_
  rintro e w5 ⟨rfl, hB⟩
  replace hz := (hB.cell (p := ⟨g, len - 1, none⟩) hgs).trans hz
  replace hy := (hB.cell (p := ⟨g, len - 2, none⟩) hgs).trans hy
  replace hgs := Nat.lt_of_lt_of_le hgs hB.size
  replace hB0 := Lib.hid (hB0.out.trans (hB.mono hB0.out.size))
  clear hB
  go_wp2_with fail
  refine bodyPost_ret (results_tmp4 rfl _ _ _) rfl ?_
  exact ⟨rfl, hB0.out⟩
set_option maxHeartbeats 1000000 in
theorem refOf_13101 (s q r z y : ByteArray) (len : Nat) (w : World) (hlen : 3 ≤ len) (hlen2 : len ≤ 1073741825) (h0 : 0 < s.size) (h3 : 3 ≤ s.size) (hs : s.size ≤ 1073741824) (h1 : (((s[0]'h0).toNat : Int) == 95) = false) (h2 : (((s[0]'h0).toNat : Int) == 46) = false) (hq : s.extract 0 (s.size - 3) = q) (hqs : q.size ≤ 1073741824) (h5 : 5 ≤ q.size) (hr : q.extract 0 (q.size - 5) = r) (HE : (∀ w1, Calls Tryd.prog 21 #[.string s, .string ⟨#[46, 103, 111]⟩] w1 fun e w' => e = .returned (.bool true) ∧ w1 = w')) (HT : (∀ w1, Calls Tryd.prog 21 #[.string q, .string ⟨#[95, 116, 101, 115, 116]⟩] w1 fun e w' => e = .returned (.bool true) ∧ w1 = w')) (HC : ∀ w1, Calls Tryd.prog 20 #[.string r, .int .u8 95] w1 fun e w' => ∃ g cap, e = .returned (.slice (some ⟨g, 0, none⟩) len cap) ∧ w1.heap.size ≤ g ∧ g < w'.heap.size ∧ len ≤ cap ∧ cap ≤ 9223372036854775807 ∧ Below w1.heap.size w1 w' ∧ w'.cell? ⟨g, len - 1, none⟩ = some (.string z) ∧ w'.cell? ⟨g, len - 2, none⟩ = some (.string y)) (HY : (∀ w1, Calls Tryd.prog 9 #[.string y] w1 fun e w' => e = .returned (.bool true) ∧ Below w1.heap.size w1 w')) (HS : (∀ w1, Calls Tryd.prog 9 #[.string z] w1 fun e w' => e = .returned (.bool true) ∧ Below w1.heap.size w1 w')) (HP : (∀ w1, Calls Tryd.prog 11 #[.string z] w1 fun e w' => e = .returned (.bool false) ∧ Below w1.heap.size w1 w')) :
    Calls Tryd.prog 16 #[.string s] w fun e w' => e = .returned (.tuple #[.bool true, .bool true, .string z, .string ⟨#[]⟩]) ∧ Below w.heap.size w w' := by
  have HE' := Lib.hid HE
  have HT' := Lib.hid HT
  have HC' := Lib.hid HC
  have HY' := Lib.hid HY
  have HS' := Lib.hid HS
  have HP' := Lib.hid HP
  clear HE HT HC HY HS HP
  go_enter Tryd.func16, Tryd.ntmps16
  go_wp2_with fail
  refine (HE'.out _).mono ?_
  rintro e w1 ⟨rfl, rfl⟩
  go_wp2_with fail
  refine (HT'.out _).mono ?_
  rintro e w1 ⟨rfl, rfl⟩
  go_wp2_with fail
  refine (HC'.out _).mono ?_
  rintro e w1 ⟨g, cap, rfl, hg, hgs, hcap, hmax, hB, hz, hy⟩
  have hB0 := Lib.hid hB
  clear hB
  go_wp2_with fail
  refine (HY'.out _).mono ?_
  rintro e w2 ⟨rfl, hB⟩
  replace hz := (hB.cell (p := ⟨g, len - 1, none⟩) hgs).trans hz
  replace hy := (hB.cell (p := ⟨g, len - 2, none⟩) hgs).trans hy
  replace hgs := Nat.lt_of_lt_of_le hgs hB.size
  replace hB0 := Lib.hid (hB0.out.trans (hB.mono hB0.out.size))
  clear hB
  go_wp2_with fail
  refine (HP'.out _).mono ?_
  rintro e w3 ⟨rfl, hB⟩
  replace hz := (hB.cell (p := ⟨g, len - 1, none⟩) hgs).trans hz
  replace hy := (hB.cell (p := ⟨g, len - 2, none⟩) hgs).trans hy
  replace hgs := Nat.lt_of_lt_of_le hgs hB.size
  replace hB0 := Lib.hid (hB0.out.trans (hB.mono hB0.out.size))
  clear hB
  go_wp2_with fail
  refine (HS'.out _).mono ?_
  rintro e w4 ⟨rfl, hB⟩
  replace hz := (hB.cell (p := ⟨g, len - 1, none⟩) hgs).trans hz
  replace hy := (hB.cell (p := ⟨g, len - 2, none⟩) hgs).trans hy
  replace hgs := Nat.lt_of_lt_of_le hgs hB.size
  replace hB0 := Lib.hid (hB0.out.trans (hB.mono hB0.out.size))
  clear hB
  go_wp2_with fail
  go_quiet (fail)
  go_wp2_with fail
  refine bodyPost_ret (results_tmp4 rfl _ _ _) rfl ?_
  exact ⟨rfl, below_drewN hB0.out _⟩
set_option maxHeartbeats 1000000 in
theorem refOf_13000 (s q r z y : ByteArray) (len : Nat) (w : World) (hlen : 3 ≤ len) (hlen2 : len ≤ 1073741825) (h0 : 0 < s.size) (h3 : 3 ≤ s.size) (hs : s.size ≤ 1073741824) (h1 : (((s[0]'h0).toNat : Int) == 95) = false) (h2 : (((s[0]'h0).toNat : Int) == 46) = false) (hq : s.extract 0 (s.size - 3) = q) (hqs : q.size ≤ 1073741824) (h5 : 5 ≤ q.size) (hr : q.extract 0 (q.size - 5) = r) (HE : (∀ w1, Calls Tryd.prog 21 #[.string s, .string ⟨#[46, 103, 111]⟩] w1 fun e w' => e = .returned (.bool true) ∧ w1 = w')) (HT : (∀ w1, Calls Tryd.prog 21 #[.string q, .string ⟨#[95, 116, 101, 115, 116]⟩] w1 fun e w' => e = .returned (.bool true) ∧ w1 = w')) (HC : ∀ w1, Calls Tryd.prog 20 #[.string r, .int .u8 95] w1 fun e w' => ∃ g cap, e = .returned (.slice (some ⟨g, 0, none⟩) len cap) ∧ w1.heap.size ≤ g ∧ g < w'.heap.size ∧ len ≤ cap ∧ cap ≤ 9223372036854775807 ∧ Below w1.heap.size w1 w' ∧ w'.cell? ⟨g, len - 1, none⟩ = some (.string z) ∧ w'.cell? ⟨g, len - 2, none⟩ = some (.string y)) (HY : (∀ w1, Calls Tryd.prog 9 #[.string y] w1 fun e w' => e = .returned (.bool false) ∧ Below w1.heap.size w1 w')) (HS : (∀ w1, Calls Tryd.prog 9 #[.string z] w1 fun e w' => e = .returned (.bool false) ∧ Below w1.heap.size w1 w')) (HP : (∀ w1, Calls Tryd.prog 11 #[.string z] w1 fun e w' => e = .returned (.bool false) ∧ Below w1.heap.size w1 w')) :
    Calls Tryd.prog 16 #[.string s] w fun e w' => e = .returned (.tuple #[.bool true, .bool true, .string ⟨#[]⟩, .string ⟨#[]⟩]) ∧ Below w.heap.size w w' := by
  have HE' := Lib.hid HE
  have HT' := Lib.hid HT
  have HC' := Lib.hid HC
  have HY' := Lib.hid HY
  have HS' := Lib.hid HS
  have HP' := Lib.hid HP
  clear HE HT HC HY HS HP
  go_enter Tryd.func16, Tryd.ntmps16
  go_wp2_with fail
  refine (HE'.out _).mono ?_
  rintro e w1 ⟨rfl, rfl⟩
  go_wp2_with fail
  refine (HT'.out _).mono ?_
  rintro e w1 ⟨rfl, rfl⟩
  go_wp2_with fail
  refine (HC'.out _).mono ?_
  rintro e w1 ⟨g, cap, rfl, hg, hgs, hcap, hmax, hB, hz, hy⟩
  have hB0 := Lib.hid hB
  clear hB
  go_wp2_with fail
  refine (HY'.out _).mono ?_
  rintro e w2 ⟨rfl, hB⟩
  replace hz := (hB.cell (p := ⟨g, len - 1, none⟩) hgs).trans hz
  replace hy := (hB.cell (p := ⟨g, len - 2, none⟩) hgs).trans hy
  replace hgs := Nat.lt_of_lt_of_le hgs hB.size
  replace hB0 := Lib.hid (hB0.out.trans (hB.mono hB0.out.size))
  clear hB
  go_wp2_with fail
  refine (HS'.out _).mono ?_
  rintro e w3 ⟨rfl, hB⟩
  replace hz := (hB.cell (p := ⟨g, len - 1, none⟩) hgs).trans hz
  replace hy := (hB.cell (p := ⟨g, len - 2, none⟩) hgs).trans hy
  replace hgs := Nat.lt_of_lt_of_le hgs hB.size
  replace hB0 := Lib.hid (hB0.out.trans (hB.mono hB0.out.size))
  clear hB
  go_wp2_with fail
  refine (HP'.out _).mono ?_
  rintro e w4 ⟨rfl, hB⟩
  replace hz := (hB.cell (p := ⟨g, len - 1, none⟩) hgs).trans hz
  replace hy := (hB.cell (p := ⟨g, len - 2, none⟩) hgs).trans hy
  replace hgs := Nat.lt_of_lt_of_le hgs hB.size
  replace hB0 := Lib.hid (hB0.out.trans (hB.mono hB0.out.size))
  clear hB
  go_wp2_with fail
  refine bodyPost_ret (results_tmp4 rfl _ _ _) rfl ?_
  exact ⟨rfl, hB0.out⟩
set_option maxHeartbeats 1000000 in
theorem refOf_13001 (s q r z y : ByteArray) (len : Nat) (w : World) (hlen : 3 ≤ len) (hlen2 : len ≤ 1073741825) (h0 : 0 < s.size) (h3 : 3 ≤ s.size) (hs : s.size ≤ 1073741824) (h1 : (((s[0]'h0).toNat : Int) == 95) = false) (h2 : (((s[0]'h0).toNat : Int) == 46) = false) (hq : s.extract 0 (s.size - 3) = q) (hqs : q.size ≤ 1073741824) (h5 : 5 ≤ q.size) (hr : q.extract 0 (q.size - 5) = r) (HE : (∀ w1, Calls Tryd.prog 21 #[.string s, .string ⟨#[46, 103, 111]⟩] w1 fun e w' => e = .returned (.bool true) ∧ w1 = w')) (HT : (∀ w1, Calls Tryd.prog 21 #[.string q, .string ⟨#[95, 116, 101, 115, 116]⟩] w1 fun e w' => e = .returned (.bool true) ∧ w1 = w')) (HC : ∀ w1, Calls Tryd.prog 20 #[.string r, .int .u8 95] w1 fun e w' => ∃ g cap, e = .returned (.slice (some ⟨g, 0, none⟩) len cap) ∧ w1.heap.size ≤ g ∧ g < w'.heap.size ∧ len ≤ cap ∧ cap ≤ 9223372036854775807 ∧ Below w1.heap.size w1 w' ∧ w'.cell? ⟨g, len - 1, none⟩ = some (.string z) ∧ w'.cell? ⟨g, len - 2, none⟩ = some (.string y)) (HY : (∀ w1, Calls Tryd.prog 9 #[.string y] w1 fun e w' => e = .returned (.bool false) ∧ Below w1.heap.size w1 w')) (HS : (∀ w1, Calls Tryd.prog 9 #[.string z] w1 fun e w' => e = .returned (.bool true) ∧ Below w1.heap.size w1 w')) :
    Calls Tryd.prog 16 #[.string s] w fun e w' => e = .returned (.tuple #[.bool true, .bool true, .string z, .string ⟨#[]⟩]) ∧ Below w.heap.size w w' := by
  have HE' := Lib.hid HE
  have HT' := Lib.hid HT
  have HC' := Lib.hid HC
  have HY' := Lib.hid HY
  have HS' := Lib.hid HS
  clear HE HT HC HY HS
  go_enter Tryd.func16, Tryd.ntmps16
  go_wp2_with fail
  refine (HE'.out _).mono ?_
  rintro e w1 ⟨rfl, rfl⟩
  go_wp2_with fail
  refine (HT'.out _).mono ?_
  rintro e w1 ⟨rfl, rfl⟩
  go_wp2_with fail
  refine (HC'.out _).mono ?_
  rintro e w1 ⟨g, cap, rfl, hg, hgs, hcap, hmax, hB, hz, hy⟩
  have hB0 := Lib.hid hB
  clear hB
  go_wp2_with fail
  refine (HY'.out _).mono ?_
  rintro e w2 ⟨rfl, hB⟩
  replace hz := (hB.cell (p := ⟨g, len - 1, none⟩) hgs).trans hz
  replace hy := (hB.cell (p := ⟨g, len - 2, none⟩) hgs).trans hy
  replace hgs := Nat.lt_of_lt_of_le hgs hB.size
  replace hB0 := Lib.hid (hB0.out.trans (hB.mono hB0.out.size))
  clear hB
  go_wp2_with fail
  refine (HS'.out _).mono ?_
  rintro e w3 ⟨rfl, hB⟩
  replace hz := (hB.cell (p := ⟨g, len - 1, none⟩) hgs).trans hz
  replace hy := (hB.cell (p := ⟨g, len - 2, none⟩) hgs).trans hy
  replace hgs := Nat.lt_of_lt_of_le hgs hB.size
  replace hB0 := Lib.hid (hB0.out.trans (hB.mono hB0.out.size))
  clear hB
  go_wp2_with fail
  go_quiet (fail)
  go_wp2_with fail
  refine bodyPost_ret (results_tmp4 rfl _ _ _) rfl ?_
  exact ⟨rfl, below_drewN hB0.out _⟩
set_option maxHeartbeats 1000000 in
theorem refOf_13010 (s q r z y : ByteArray) (len : Nat) (w : World) (hlen : 3 ≤ len) (hlen2 : len ≤ 1073741825) (h0 : 0 < s.size) (h3 : 3 ≤ s.size) (hs : s.size ≤ 1073741824) (h1 : (((s[0]'h0).toNat : Int) == 95) = false) (h2 : (((s[0]'h0).toNat : Int) == 46) = false) (hq : s.extract 0 (s.size - 3) = q) (hqs : q.size ≤ 1073741824) (h5 : 5 ≤ q.size) (hr : q.extract 0 (q.size - 5) = r) (HE : (∀ w1, Calls Tryd.prog 21 #[.string s, .string ⟨#[46, 103, 111]⟩] w1 fun e w' => e = .returned (.bool true) ∧ w1 = w')) (HT : (∀ w1, Calls Tryd.prog 21 #[.string q, .string ⟨#[95, 116, 101, 115, 116]⟩] w1 fun e w' => e = .returned (.bool true) ∧ w1 = w')) (HC : ∀ w1, Calls Tryd.prog 20 #[.string r, .int .u8 95] w1 fun e w' => ∃ g cap, e = .returned (.slice (some ⟨g, 0, none⟩) len cap) ∧ w1.heap.size ≤ g ∧ g < w'.heap.size ∧ len ≤ cap ∧ cap ≤ 9223372036854775807 ∧ Below w1.heap.size w1 w' ∧ w'.cell? ⟨g, len - 1, none⟩ = some (.string z) ∧ w'.cell? ⟨g, len - 2, none⟩ = some (.string y)) (HY : (∀ w1, Calls Tryd.prog 9 #[.string y] w1 fun e w' => e = .returned (.bool false) ∧ Below w1.heap.size w1 w')) (HS : (∀ w1, Calls Tryd.prog 9 #[.string z] w1 fun e w' => e = .returned (.bool false) ∧ Below w1.heap.size w1 w')) (HP : (∀ w1, Calls Tryd.prog 11 #[.string z] w1 fun e w' => e = .returned (.bool true) ∧ Below w1.heap.size w1 w')) :
    Calls Tryd.prog 16 #[.string s] w fun e w' => e = .returned (.tuple #[.bool true, .bool true, .string ⟨#[]⟩, .string z]) ∧ Below w.heap.size w w' := by
  have HE' := Lib.hid HE
  have HT' := Lib.hid HT
  have HC' := Lib.hid HC
  have HY' := Lib.hid HY
  have HS' := Lib.hid HS
  have HP' := Lib.hid HP
  clear HE HT HC HY HS HP
  go_enter Tryd.func16, Tryd.ntmps16
  go_wp2_with fail
  refine (HE'.out _).mono ?_
  rintro e w1 ⟨rfl, rfl⟩
  go_wp2_with fail
  refine (HT'.out _).mono ?_
  rintro e w1 ⟨rfl, rfl⟩
  go_wp2_with fail
  refine (HC'.out _).mono ?_
  rintro e w1 ⟨g, cap, rfl, hg, hgs, hcap, hmax, hB, hz, hy⟩
  have hB0 := Lib.hid hB
  clear hB
  go_wp2_with fail
  refine (HY'.out _).mono ?_
  rintro e w2 ⟨rfl, hB⟩
  replace hz := (hB.cell (p := ⟨g, len - 1, none⟩) hgs).trans hz
  replace hy := (hB.cell (p := ⟨g, len - 2, none⟩) hgs).trans hy
  replace hgs := Nat.lt_of_lt_of_le hgs hB.size
  replace hB0 := Lib.hid (hB0.out.trans (hB.mono hB0.out.size))
  clear hB
  go_wp2_with fail
  refine (HS'.out _).mono ?_
  rintro e w3 ⟨rfl, hB⟩
  replace hz := (hB.cell (p := ⟨g, len - 1, none⟩) hgs).trans hz
  replace hy := (hB.cell (p := ⟨g, len - 2, none⟩) hgs).trans hy
  replace hgs := Nat.lt_of_lt_of_le hgs hB.size
  replace hB0 := Lib.hid (hB0.out.trans (hB.mono hB0.out.size))
  clear hB
  go_wp2_with fail
  refine (HP'.out _).mono ?_
  rintro e w4 ⟨rfl, hB⟩
  replace hz := (hB.cell (p := ⟨g, len - 1, none⟩) hgs).trans hz
  replace hy := (hB.cell (p := ⟨g, len - 2, none⟩) hgs).trans hy
  replace hgs := Nat.lt_of_lt_of_le hgs hB.size
  replace hB0 := Lib.hid (hB0.out.trans (hB.mono hB0.out.size))
  clear hB
  go_wp2_with fail
  go_quiet (fail)
  go_wp2_with fail
  refine bodyPost_ret (results_tmp4 rfl _ _ _) rfl ?_
  exact ⟨rfl, below_drewN hB0.out _⟩
end Go.Proofs.YtlgmnhjdnmjpgaaDoor
