/- Walks: the statement CodeJoins. -/
import Derived.Test.YtkjbhodcgpbmmaaWm
import Derived.Test.YtkjbhodcgpbmmaaKq
namespace Go.Proofs.Ytkjbhodcgpbmmaa
open Go.ChangeShapes Go.WideShapes Go.ChangeAt Go.RowKit

theorem wf_bounds {n : Int} (h : (Lit.int .i64 n).wf = true) : -9223372036854775808 ≤ n ∧ n ≤ 9223372036854775807 := by
  simpa [Lit.wf, IntKind.min, IntKind.max, IntKind.bits, IntKind.signed] using h

theorem back_num (n : Int) (h : (Lit.int .i64 n).wf = true) (s : ByteArray) : wrap64 (be ((numB (n % 18446744073709551616).toNat ++ s).data.toList.take 8)) = n := by
  have hb := wf_bounds h
  have e : be ((numB (n % 18446744073709551616).toNat ++ s).data.toList.take 8) = (n % 18446744073709551616).toNat := by
    rw [ba_append, List.take_append_of_le_length (by rw [numB_len]; omega), List.take_of_length_le (by rw [numB_len]; omega), be_num _ (by omega)]
  rw [e]
  unfold wrap64
  omega

/-- What is read off a text's beginning is what it begins with. -/
theorem num_read (s : ByteArray) (h : 8 ≤ s.size) : numB ((wrap64 (be (s.data.toList.take 8))) % 18446744073709551616).toNat = s.extract 0 8 := by
  have hlt := be_take_lt s 8
  have e : ((wrap64 (be (s.data.toList.take 8))) % 18446744073709551616).toNat = be (s.data.toList.take 8) := by unfold wrap64; omega
  rw [e]
  apply ba_ext
  rw [num_be _ (by rw [List.length_take, ba_len]; omega), Lib.extract_data, List.drop_zero]

set_option maxHeartbeats 400000 in
theorem joins_great (n : Int) (s : ByteArray) (v : Value) (a : List ByteArray) (w : World) (hv : Strs w v a) (hza : ∀ s ∈ a, s.size ≤ 140737488351232) (h : isGreat a = true ∨ 16384 < s.size) :
    Calls Try.prog 3 #[.int .i64 n, .string s, v] w (LawEnd w) := by
  go_enter Try.func3, Try.ntmps3
  go_wp2_with fail
  refine (alive_any _).mono ?_
  rintro e w1 ⟨rfl, hB1⟩
  have hc := great_any v a w1 (hv.below hB1) hza
  have Hc := Lib.hid hc
  clear hv hc hza
  go_wp2_with fail
  refine Hc.out.mono ?_
  rintro e w2 ⟨rfl, rfl⟩
  clear Hc
  cases hga : isGreat a with
  | true =>
    clear h hga
    go_wp2_with fail
    go_ret
    exact ⟨rfl, hB1⟩
  | false =>
    have hgb : 16384 < s.size := by rw [hga] at h; simpa using h
    have hd : decide ((16384 : Int) < s.size) = true := by simp; omega
    clear h hga
    go_wp2_with fail
    go_ret
    exact ⟨rfl, hB1⟩

set_option maxHeartbeats 800000 in
theorem joins_small (n : Int) (hn : (Lit.int .i64 n).wf = true) (s : ByteArray) (v : Value) (a : List ByteArray) (w : World) (hv : Strs w v a) (hga : isGreat a = false) (hs : s.size ≤ 16384) :
    Calls Try.prog 3 #[.int .i64 n, .string s, v] w (LawEnd w) := by
  obtain ⟨hta, hla⟩ := not_great hga
  have hc1 : ∀ w1, Below w.heap.size w w1 → Calls Try.prog 10 #[v] w1 fun e w' => e = .returned (.bool false) ∧ w1 = w' := fun w1 hB => great_no v a w1 (hv.below hB) hta hla
  have hj1 : ∀ w1, Below w.heap.size w w1 → Calls Try.prog 14 #[v] w1 fun e w' => e = .returned (.string (joinB a)) ∧ Below w1.heap.size w1 w' := fun w1 hB => join_any v a w1 (hv.below hB) (by omega) (by omega)
  have hj2 : ∀ w1, Below w.heap.size w w1 → Calls Try.prog 15 #[v] w1 fun e w' => e = .returned (.string (joinB a)) ∧ Below w1.heap.size w1 w' := fun w1 hB => refJoin_any v a w1 (hv.below hB) (by omega) (by omega)
  have hn1 : ∀ w1, Calls Try.prog 12 #[.int .i64 n] w1 fun e w' => e = .returned (.string (numB (n % 18446744073709551616).toNat)) ∧ Below w1.heap.size w1 w' := fun w1 => num_any n w1
  have hn2 : ∀ w1, Calls Try.prog 13 #[.int .i64 n] w1 fun e w' => e = .returned (.string (numB (n % 18446744073709551616).toNat)) ∧ Below w1.heap.size w1 w' := fun w1 => refNum_any n w1
  have hrd : ∀ w1, Calls Try.prog 11 #[.string (numB (n % 18446744073709551616).toNat ++ s)] w1 fun e w' => e = .returned (.tuple #[.int .i64 n, .bool true]) ∧ w1 = w' := fun w1 => by
    have := readNum_long (numB (n % 18446744073709551616).toNat ++ s) w1 (by rw [ByteArray.size_append, numB_size]; omega) (by rw [ByteArray.size_append, numB_size]; omega)
    rwa [back_num n hn s] at this
  have hns := numB_size (n % 18446744073709551616).toNat
  have hns1 : (numB (n % 18446744073709551616).toNat).size ≤ 8 := by omega
  generalize numB (n % 18446744073709551616).toNat = nb at *
  generalize joinB a = ja at *
  have Hc1 := Lib.hid hc1
  have Hj1 := Lib.hid hj1
  have Hj2 := Lib.hid hj2
  have Hn1 := Lib.hid hn1
  have Hn2 := Lib.hid hn2
  have Hrd := Lib.hid hrd
  clear hc1 hj1 hj2 hn1 hn2 hrd hns hv hga hta hla hn
  have h2 : decide ((16384 : Int) < s.size) = false := by simp; omega
  go_enter Try.func3, Try.ntmps3
  go_wp2_with fail
  refine (alive_any _).mono ?_
  rintro e w1 ⟨rfl, hB1⟩
  go_wp2_with fail
  refine (Hc1.out _ hB1).mono ?_
  rintro e w2 ⟨rfl, rfl⟩
  go_wp2_with fail
  refine (Hn1.out _).mono ?_
  rintro e w2 ⟨rfl, hB2⟩
  have hB02 := hB1.trans (hB2.mono hB1.size)
  clear hB1 hB2
  go_wp2_with fail
  refine (Hrd.out _).mono ?_
  rintro e w3 ⟨rfl, rfl⟩
  go_wp2_with fail
  by_cases h8 : s.size < 8
  · refine (readNum_short s _ h8).mono ?_
    rintro e w3 ⟨rfl, rfl⟩
    have h9 : decide (8 ≤ (s.size : Int)) = false := by simp; omega
    have h10 : ((n != n) = false) := by simp
    go_wp2_with fail
    go_quiet (fail)
    go_wp2_with fail
    refine (Hn1.out _).mono ?_
    rintro e w4 ⟨rfl, hB4⟩
    have hB04 := (below_drewN hB02 _).trans (hB4.mono (by simpa using hB02.size))
    clear hB4
    go_wp2_with fail
    refine (Hn2.out _).mono ?_
    rintro e w5 ⟨rfl, hB5⟩
    have hB05 := hB04.trans (hB5.mono hB04.size)
    clear hB04 hB5
    go_wp2_with fail
    refine (Hj1.out _ hB05).mono ?_
    rintro e w6 ⟨rfl, hB6⟩
    have hB06 := hB05.trans (hB6.mono hB05.size)
    clear hB05 hB6
    go_wp2_with fail
    refine (Hj2.out _ hB06).mono ?_
    rintro e w7 ⟨rfl, hB7⟩
    go_wp2_with fail
    go_ret
    exact ⟨rfl, hB06.trans (hB7.mono hB06.size)⟩
  · have h8' : 8 ≤ s.size := by omega
    have hy : ∀ w1, Calls Try.prog 12 #[.int .i64 (wrap64 (be (s.data.toList.take 8)))] w1 fun e w' => e = .returned (.string (s.extract 0 8)) ∧ Below w1.heap.size w1 w' := fun w1 => by
      have := num_any (wrap64 (be (s.data.toList.take 8))) w1
      rwa [num_read s h8'] at this
    have Hy := Lib.hid hy
    clear hy
    refine (readNum_long s _ h8' (by omega)).mono ?_
    rintro e w3 ⟨rfl, rfl⟩
    generalize wrap64 (be (s.data.toList.take 8) : Int) = y at *
    have h9 : decide (8 ≤ (s.size : Int)) = true := by simp; omega
    have h10 : ((n != n) = false) := by simp
    have h11 : (8 : Int) ≤ (s.size : Int) := by omega
    go_wp2_with fail
    have hcy : ∀ w1, Below w.heap.size w w1 → Calls Try.prog 12 #[.int .i64 y] w1 fun e w' => e = .returned (.string (s.extract 0 8)) ∧ Below w.heap.size w w' := fun w1 hB => (Hy.out w1).mono fun e w' ⟨h1, h2⟩ => ⟨h1, hB.trans (h2.mono hB.size)⟩
    have Hcy := Lib.hid hcy
    clear hcy
    refine wp_region_class (fun w' => Below w.heap.size w w') (by kernel_rfl) (by kernel_rfl) hB02.drew ?_
    clear hB02
    repeat (go_big_quiet_step (first | (intro _; rfl) | (intro hq; exact Hcy.out _ hq)))
    refine wpQuiet_nil ?_
    intro wq hB
    go_wp2_with fail
    refine (Hn1.out _).mono ?_
    rintro e w4 ⟨rfl, hB4⟩
    have hB04 := hB.trans (hB4.mono hB.size)
    clear hB4
    go_wp2_with fail
    refine (Hn2.out _).mono ?_
    rintro e w5 ⟨rfl, hB5⟩
    have hB05 := hB04.trans (hB5.mono hB04.size)
    clear hB04 hB5
    go_wp2_with fail
    refine (Hj1.out _ hB05).mono ?_
    rintro e w6 ⟨rfl, hB6⟩
    have hB06 := hB05.trans (hB6.mono hB05.size)
    clear hB05 hB6
    go_wp2_with fail
    refine (Hj2.out _ hB06).mono ?_
    rintro e w7 ⟨rfl, hB7⟩
    go_wp2_with fail
    go_ret
    exact ⟨rfl, hB06.trans (hB7.mono hB06.size)⟩

theorem joins_walk (n : Int) (hn : (Lit.int .i64 n).wf = true) (s : ByteArray) (v : Value) (a : List ByteArray) (w : World) (hv : Strs w v a) (hza : ∀ s ∈ a, s.size ≤ 140737488351232) :
    Calls Try.prog 3 #[.int .i64 n, .string s, v] w (LawEnd w) := by
  cases hga : isGreat a with
  | true => exact joins_great n s v a w hv hza (.inl hga)
  | false =>
    by_cases hs : s.size ≤ 16384
    · exact joins_small n hn s v a w hv hga hs
    · exact joins_great n s v a w hv hza (.inr (by omega))
end Go.Proofs.Ytkjbhodcgpbmmaa
