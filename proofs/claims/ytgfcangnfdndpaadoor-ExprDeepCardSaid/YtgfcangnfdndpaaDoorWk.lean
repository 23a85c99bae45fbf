/- Walks: the law ExprDeep. -/
import Derived.Test.YtgfcangnfdndpaaDoorWj
namespace Go.Proofs.YtgfcangnfdndpaaDoor
set_option linter.unusedVariables false
open Go.ChangeShapes Go.WideShapes Go.ChangeAt Go.RowKit

def deepL : Nat → Bool → List UInt8
  | 0, _ => [97]
  | n + 1, true => 33 :: 40 :: (deepL n true ++ [41])
  | n + 1, false => 40 :: (deepL n false ++ [41])
def deepOk (n : Nat) (nt : Bool) : Bool :=
  let r := parseR (mkB (deepL n nt))
  if 64 < n then r.2 == 8 && r.1.isEmpty else r.2 == 0 && decide (evalR [⟨#[97]⟩] r.1 = (!nt || n % 2 == 0, 0)) && decide (r.1.length ≤ 1000)
theorem deep_all : ∀ n : Fin 101, ∀ nt : Bool, deepOk n.val nt = true := by decide +kernel
theorem deep_len : ∀ (n : Nat) (nt : Bool), (deepL n nt).length ≤ 3 * n + 1
  | 0, _ => by simp [deepL]
  | n + 1, true => by have := deep_len n true; simp [deepL]; omega
  | n + 1, false => by have := deep_len n false; simp [deepL]; omega
theorem deep_yes (n : Nat) (b : ByteArray) (h : b = mkB (deepL n true)) : (⟨#[33]⟩ : ByteArray) ++ (⟨#[40]⟩ ++ b ++ ⟨#[41]⟩) = mkB (deepL (n + 1) true) := by
  subst h; apply ba_ext; simp only [ba_append, mkB_toList, deepL]; simp
theorem deep_no (n : Nat) (b : ByteArray) (h : b = mkB (deepL n false)) : (⟨#[40]⟩ : ByteArray) ++ b ++ ⟨#[41]⟩ = mkB (deepL (n + 1) false) := by
  subst h; apply ba_ext; simp only [ba_append, mkB_toList, deepL]; simp
set_option maxHeartbeats 1000000 in
theorem deep_true (N : Nat) (w : World) (hN : N ≤ 100) : Calls Tryd.prog 7 #[.int .i64 (N : Nat), .bool true] w (LawEnd w) := by
  have H10 := Lib.hid (alive_any w)
  have hok := deep_all ⟨N, by omega⟩ true
  simp only [deepOk] at hok
  have HP := Lib.hid (fun w1 => parse_any (mkB (deepL N true)) w1 (by rw [mkB_size]; have := deep_len N true; omega))
  unfold Parsed at HP
  have hcode := parse_code (mkB (deepL N true))
  obtain ⟨⟨l, c⟩, hr⟩ : ∃ r, parseR (mkB (deepL N true)) = r := ⟨_, rfl⟩
  rw [hr] at HP hok hcode
  simp only at HP hok
  have Hok := Lib.hid hok
  have Hcode := Lib.hid hcode
  have h0 : (0 : Int) ≤ (N : Int) := by omega
  have h100 : (N : Int) ≤ 100 := by omega
  clear hok hcode hr
  go_enter Tryd.func7, Tryd.ntmps7
  go_wp2_with fail
  refine H10.out.mono ?_
  rintro e w1 ⟨rfl, hB⟩
  go_wp2_with fail
  go_loopg [5, 6] N (fun g sv iv wr => ∃ (i : Nat) (b : ByteArray), i + g = N ∧ iv = .int .i64 i ∧ sv = .string b ∧ b = mkB (deepL i true) ∧ w1 = wr)
  case atStart => exact ⟨0, _, by omega, rfl, rfl, rfl, rfl⟩
  case round =>
    obtain ⟨i, b, hig, rfl, rfl, hb, rfl⟩ := hrel
    have hsz : b.size ≤ 3 * i + 1 := by rw [hb, mkB_size]; exact deep_len i true
    have Hb := Lib.hid hb
    clear hb
    by_cases hlt : i < N
    · have hltI : (i : Int) < (N : Int) := by omega
      go_wp2_with fail
      go_roundg (gk - 1)
      case measure => omega
      case rel => exact ⟨i + 1, _, by omega, by go_num, rfl, deep_yes i b Hb.out, rfl⟩
    · have hi : i = N := by omega
      subst hi
      rw [← Hb.out] at HP
      have hnl : ¬ (i : Int) < (i : Int) := by omega
      by_cases h64 : 64 < i
      · have h64I : ¬ (i : Int) ≤ 64 := by omega
        have h64J : (64 : Int) < (i : Int) := by omega
        have hc := Hok.out
        rw [if_pos h64, Bool.and_eq_true] at hc
        have hc1 : c = 8 := by simpa using hc.1
        have hc2 : l = [] := List.isEmpty_iff.1 hc.2
        subst hc1; subst hc2
        clear hc
        go_wp2_with fail
        refine (HP.out _).mono ?_
        rintro e w2 ⟨v, rfl, hv, hB2⟩
        replace hB := hB.trans (hB2.mono hB.size)
        obtain ⟨pv, capv, rfl, _⟩ := strs_shape hv
        clear hv hB2
        go_wp2_with fail
        go_ret
        exact ⟨rfl, hB⟩
      · have h64I : (i : Int) ≤ 64 := by omega
        have h64J : ¬ (64 : Int) < (i : Int) := by omega
        have hc := Hok.out
        rw [if_neg h64, Bool.and_eq_true, Bool.and_eq_true] at hc
        have hc1 : c = 0 := by simpa using hc.1.1
        have hc2 := of_decide_eq_true hc.1.2
        have hc3 := of_decide_eq_true hc.2
        subst hc1
        obtain ⟨e0, he0, hl0⟩ := Hcode.out l rfl
        have hsz0 := code_size 1024 (by decide) e0 he0
        rw [← hl0] at hsz0
        have HE := Lib.hid (fun (v u : Value) (w3 : World) (hv : Strs w3 v l) (hu : Strs w3 u [⟨#[97]⟩]) => eval_any v u l [⟨#[97]⟩] w3 hv hu (by omega) (by simp) (fun x hx => by have := hsz0 x hx; omega))
        unfold Evald at HE
        rw [hc2] at HE
        clear hc hc2 hc3 hsz0 hl0
        have hm2 : (i : Int).tmod 2 = ((i % 2 : Nat) : Int) := rfl
        have hpar : i % 2 = 0 ∨ i % 2 = 1 := by omega
        rcases hpar with hpar | hpar
        all_goals
          rw [hpar] at HE hm2
          go_wp2_with fail
          refine (HP.out _).mono ?_
          rintro e w2 ⟨v, rfl, hv, hB2⟩
          replace hB := hB.trans (hB2.mono hB.size)
          have hBs := hB.size
          have hst := Lib.hid (hv.below ((Below.refl w2.heap.size w2).alloc (Nat.le_refl _) (Obj.cells (([⟨#[97]⟩] : List ByteArray).map Value.string).toArray 9)))
          clear hv hB2
          go_wp2_with fail
          refine (HE.out _ _ _ hst.out (Strs.ofRow (row_of_alloc [⟨#[97]⟩] w2 (by unfold maxLen; simp)))).mono ?_
          rintro e w3 ⟨rfl, hB2⟩
          replace hB := (hB.alloc hBs (Obj.cells (([⟨#[97]⟩] : List ByteArray).map Value.string).toArray 9)).trans (hB2.mono (by simp; omega))
          go_wp2_with fail
          go_ret
          exact ⟨rfl, hB⟩
set_option maxHeartbeats 1000000 in
theorem deep_false (N : Nat) (w : World) (hN : N ≤ 100) : Calls Tryd.prog 7 #[.int .i64 (N : Nat), .bool false] w (LawEnd w) := by
  have H10 := Lib.hid (alive_any w)
  have hok := deep_all ⟨N, by omega⟩ false
  simp only [deepOk] at hok
  have HP := Lib.hid (fun w1 => parse_any (mkB (deepL N false)) w1 (by rw [mkB_size]; have := deep_len N false; omega))
  unfold Parsed at HP
  have hcode := parse_code (mkB (deepL N false))
  obtain ⟨⟨l, c⟩, hr⟩ : ∃ r, parseR (mkB (deepL N false)) = r := ⟨_, rfl⟩
  rw [hr] at HP hok hcode
  simp only at HP hok
  have Hok := Lib.hid hok
  have Hcode := Lib.hid hcode
  have h0 : (0 : Int) ≤ (N : Int) := by omega
  have h100 : (N : Int) ≤ 100 := by omega
  clear hok hcode hr
  go_enter Tryd.func7, Tryd.ntmps7
  go_wp2_with fail
  refine H10.out.mono ?_
  rintro e w1 ⟨rfl, hB⟩
  go_wp2_with fail
  go_loopg [5, 6] N (fun g sv iv wr => ∃ (i : Nat) (b : ByteArray), i + g = N ∧ iv = .int .i64 i ∧ sv = .string b ∧ b = mkB (deepL i false) ∧ w1 = wr)
  case atStart => exact ⟨0, _, by omega, rfl, rfl, rfl, rfl⟩
  case round =>
    obtain ⟨i, b, hig, rfl, rfl, hb, rfl⟩ := hrel
    have hsz : b.size ≤ 3 * i + 1 := by rw [hb, mkB_size]; exact deep_len i false
    have Hb := Lib.hid hb
    clear hb
    by_cases hlt : i < N
    · have hltI : (i : Int) < (N : Int) := by omega
      go_wp2_with fail
      go_roundg (gk - 1)
      case measure => omega
      case rel => exact ⟨i + 1, _, by omega, by go_num, rfl, deep_no i b Hb.out, rfl⟩
    · have hi : i = N := by omega
      subst hi
      rw [← Hb.out] at HP
      have hnl : ¬ (i : Int) < (i : Int) := by omega
      by_cases h64 : 64 < i
      · have h64I : ¬ (i : Int) ≤ 64 := by omega
        have h64J : (64 : Int) < (i : Int) := by omega
        have hc := Hok.out
        rw [if_pos h64, Bool.and_eq_true] at hc
        have hc1 : c = 8 := by simpa using hc.1
        have hc2 : l = [] := List.isEmpty_iff.1 hc.2
        subst hc1; subst hc2
        clear hc
        go_wp2_with fail
        refine (HP.out _).mono ?_
        rintro e w2 ⟨v, rfl, hv, hB2⟩
        replace hB := hB.trans (hB2.mono hB.size)
        obtain ⟨pv, capv, rfl, _⟩ := strs_shape hv
        clear hv hB2
        go_wp2_with fail
        go_ret
        exact ⟨rfl, hB⟩
      · have h64I : (i : Int) ≤ 64 := by omega
        have h64J : ¬ (64 : Int) < (i : Int) := by omega
        have hc := Hok.out
        rw [if_neg h64, Bool.and_eq_true, Bool.and_eq_true] at hc
        have hc1 : c = 0 := by simpa using hc.1.1
        have hc2 := of_decide_eq_true hc.1.2
        have hc3 := of_decide_eq_true hc.2
        subst hc1
        obtain ⟨e0, he0, hl0⟩ := Hcode.out l rfl
        have hsz0 := code_size 1024 (by decide) e0 he0
        rw [← hl0] at hsz0
        have HE := Lib.hid (fun (v u : Value) (w3 : World) (hv : Strs w3 v l) (hu : Strs w3 u [⟨#[97]⟩]) => eval_any v u l [⟨#[97]⟩] w3 hv hu (by omega) (by simp) (fun x hx => by have := hsz0 x hx; omega))
        unfold Evald at HE
        rw [hc2] at HE
        clear hc hc2 hc3 hsz0 hl0
        have hm2 : (i : Int).tmod 2 = ((i % 2 : Nat) : Int) := rfl
        have hpar : i % 2 = 0 ∨ i % 2 = 1 := by omega
        rcases hpar with hpar | hpar
        all_goals
          rw [hpar] at HE hm2
          go_wp2_with fail
          refine (HP.out _).mono ?_
          rintro e w2 ⟨v, rfl, hv, hB2⟩
          replace hB := hB.trans (hB2.mono hB.size)
          have hBs := hB.size
          have hst := Lib.hid (hv.below ((Below.refl w2.heap.size w2).alloc (Nat.le_refl _) (Obj.cells (([⟨#[97]⟩] : List ByteArray).map Value.string).toArray 9)))
          clear hv hB2
          go_wp2_with fail
          refine (HE.out _ _ _ hst.out (Strs.ofRow (row_of_alloc [⟨#[97]⟩] w2 (by unfold maxLen; simp)))).mono ?_
          rintro e w3 ⟨rfl, hB2⟩
          replace hB := (hB.alloc hBs (Obj.cells (([⟨#[97]⟩] : List ByteArray).map Value.string).toArray 9)).trans (hB2.mono (by simp; omega))
          go_wp2_with fail
          go_ret
          exact ⟨rfl, hB⟩
theorem deep_neg (n : Int) (nt : Bool) (w : World) (h : n < 0 ∨ 100 < n) : Calls Tryd.prog 7 #[.int .i64 n, .bool nt] w (LawEnd w) := by
  have H10 := Lib.hid (alive_any w)
  rcases h with h | h
  · have h1 : ¬ (0 : Int) ≤ n := by omega
    go_enter Tryd.func7, Tryd.ntmps7
    go_wp2_with fail
    refine H10.out.mono ?_
    rintro e w1 ⟨rfl, hB⟩
    go_wp2_with fail
    go_ret
    exact ⟨rfl, hB⟩
  · have h1 : (0 : Int) ≤ n := by omega
    have h2 : ¬ n ≤ (100 : Int) := by omega
    go_enter Tryd.func7, Tryd.ntmps7
    go_wp2_with fail
    refine H10.out.mono ?_
    rintro e w1 ⟨rfl, hB⟩
    go_wp2_with fail
    go_ret
    exact ⟨rfl, hB⟩
theorem deep_walk (n : Int) (nt : Bool) (w : World) : Calls Tryd.prog 7 #[.int .i64 n, .bool nt] w (LawEnd w) := by
  by_cases h : n < 0 ∨ 100 < n
  · exact deep_neg n nt w h
  · obtain ⟨N, rfl⟩ : ∃ N : Nat, n = (N : Int) := ⟨n.toNat, by omega⟩
    cases nt
    · exact deep_false N w (by omega)
    · exact deep_true N w (by omega)
end Go.Proofs.YtgfcangnfdndpaaDoor
