/- Walks: the law SuffixTells. -/
import Derived.Test.YtlgmnhjdnmjpgaaDoorWm
namespace Go.Proofs.YtlgmnhjdnmjpgaaDoor
set_option linter.unusedVariables false
open Go.ChangeShapes Go.WideShapes Go.ChangeAt Go.RowKit

theorem systems_is (w : World) : Calls Tryd.prog 18 #[] w fun e w' => ∃ b off cap, e = .returned (.slice (some ⟨b, off, none⟩) 15 cap) ∧ b < w'.heap.size ∧ 15 ≤ cap ∧ cap ≤ 9223372036854775807 ∧ (∀ i, i < 15 → w'.cell? ⟨b, off + i, none⟩ = some (.string (sysL.getD i ByteArray.empty))) ∧ Below w.heap.size w w' := by
  refine (systems_any w).mono ?_
  rintro e w' ⟨v, rfl, hv, hB⟩
  obtain ⟨p, cap, rfl, hp⟩ := strs_shape hv
  obtain ⟨b, off, rfl, hb, hcap, hmax, hcell⟩ := hp (by decide)
  unfold maxLen at hmax
  have hl : sysL.length = 15 := by decide
  rw [hl] at hcap hcell ⊢
  exact ⟨b, off, cap, rfl, hb, hcap, by omega, hcell, hB⟩
theorem processors_is (w : World) : Calls Tryd.prog 19 #[] w fun e w' => ∃ b off cap, e = .returned (.slice (some ⟨b, off, none⟩) 14 cap) ∧ b < w'.heap.size ∧ 14 ≤ cap ∧ cap ≤ 9223372036854775807 ∧ (∀ i, i < 14 → w'.cell? ⟨b, off + i, none⟩ = some (.string (procL.getD i ByteArray.empty))) ∧ Below w.heap.size w w' := by
  refine (processors_any w).mono ?_
  rintro e w' ⟨v, rfl, hv, hB⟩
  obtain ⟨p, cap, rfl, hp⟩ := strs_shape hv
  obtain ⟨b, off, rfl, hb, hcap, hmax, hcell⟩ := hp (by decide)
  unfold maxLen at hmax
  have hl : procL.length = 14 := by decide
  rw [hl] at hcap hcell ⊢
  exact ⟨b, off, cap, rfl, hb, hcap, by omega, hcell, hB⟩
theorem wrap_small (x : Nat) (h : x < 1000) : IntKind.i64.wrap (x : Int) = (x : Int) := by
  simp [IntKind.wrap, IntKind.bits, IntKind.signed]; omega
theorem wrap_nat (i : Int) : ∃ I : Nat, IntKind.u64.wrap i = (I : Int) := by
  refine ⟨(IntKind.u64.wrap i).toNat, ?_⟩
  have : 0 ≤ IntKind.u64.wrap i := by simp [IntKind.wrap, IntKind.bits, IntKind.signed]; omega
  omega
/-- names told -/
theorem told (b : ByteArray) (h0 : 0 < b.size) (hp : passB b = false) (ht : endsB b testE = false) (t : Bool) (E : ByteArray) (hE : E = if t then ⟨#[95, 116, 101, 115, 116, 46, 103, 111]⟩ else ⟨#[46, 103, 111]⟩) : ofB (b ++ E) = (true, t, tagsB (cutB 95 b)) := by
  subst hE
  cases t
  · exact ofB_go b h0 hp ht
  · exact ofB_test b h0 hp
theorem known_size (z : ByteArray) (h : z ∈ sysL ∨ z ∈ procL) : z.size ≤ 9 := by
  have hall : ((sysL ++ procL).all fun y => decide (y.size ≤ 9)) = true := by decide +kernel
  exact of_decide_eq_true (List.all_eq_true.1 hall z (List.mem_append.2 h))
theorem told_two (s o a E : ByteArray) (t : Bool) (h0 : 0 < s.size) (hp : passB s = false) (ho : o ∈ sysL) (ha : a ∈ procL) (hE : E = if t then ⟨#[95, 116, 101, 115, 116, 46, 103, 111]⟩ else ⟨#[46, 103, 111]⟩) : ofB (s ++ ⟨#[95]⟩ ++ o ++ ⟨#[95]⟩ ++ a ++ E) = (true, t, o, a) := by
  rw [told (s ++ ⟨#[95]⟩ ++ o ++ ⟨#[95]⟩ ++ a) (by simp only [app_size]; omega) ?_ (not_test _ a (.inr ha)) t E hE, cut_app _ a (known_free a (.inr ha)).1, cut_app _ o (known_free o (.inl ho)).1, tags_two (cutB_ne 95 s) ho ha]
  rw [app_assoc, app_assoc, app_assoc, pass_app _ _ h0]; exact hp
theorem told_os (s o E : ByteArray) (t : Bool) (h0 : 0 < s.size) (hp : passB s = false) (ho : o ∈ sysL) (hE : E = if t then ⟨#[95, 116, 101, 115, 116, 46, 103, 111]⟩ else ⟨#[46, 103, 111]⟩) : ofB (s ++ ⟨#[95]⟩ ++ o ++ E) = (true, t, o, ⟨#[]⟩) := by
  rw [told (s ++ ⟨#[95]⟩ ++ o) (by simp only [app_size]; omega) ?_ (not_test _ o (.inl ho)) t E hE, cut_app _ o (known_free o (.inl ho)).1, tags_one (cutB_ne 95 s) ho]
  rw [app_assoc, pass_app _ _ h0]; exact hp
theorem told_arch (s a E : ByteArray) (t : Bool) (h0 : 0 < s.size) (hp : passB s = false) (ha : a ∈ procL) (hl : (cutB 95 s).length = 1 ∨ inB sysL ((cutB 95 s).getD ((cutB 95 s).length - 1) ByteArray.empty) = false) (hE : E = if t then ⟨#[95, 116, 101, 115, 116, 46, 103, 111]⟩ else ⟨#[46, 103, 111]⟩) : ofB (s ++ ⟨#[95]⟩ ++ a ++ E) = (true, t, ⟨#[]⟩, a) := by
  rw [told (s ++ ⟨#[95]⟩ ++ a) (by simp only [app_size]; omega) ?_ (not_test _ a (.inr ha)) t E hE, cut_app _ a (known_free a (.inr ha)).1, tags_proc (cutB_ne 95 s) ha hl]
  rw [app_assoc, pass_app _ _ h0]; exact hp

theorem getD_mem (L : List ByteArray) (x : Nat) (h : x < L.length) : L.getD x ByteArray.empty ∈ L := by
  simp only [List.getD, List.getElem?_eq_getElem h, Option.getD_some]
  exact List.getElem_mem h

set_option maxHeartbeats 2000000 in
theorem tells_0one (s : ByteArray) (i k : Int) (m : Int) (w : World) (hle : s.size ≤ 512) (h0 : 0 < s.size) (hm : w.cell? ⟨0, 0, none⟩ = some (.int .i64 m))
    (n1 : (!s.toList.isEmpty) = true) (n2 : (s.toList == ([] : List UInt8)) = false) (h3 : (((s[0]'h0).toNat : Int) == 95) = false) (h4 : (((s[0]'h0).toNat : Int) == 46) = false)
    (HC : ∀ w1, Calls Tryd.prog 20 #[.string s, .int .u8 95] w1 fun e w' => ∃ g cap, e = .returned (.slice (some ⟨g, 0, none⟩) 1 cap) ∧ w1.heap.size ≤ g ∧ g < w'.heap.size ∧ 1 ≤ cap ∧ cap ≤ 9223372036854775807 ∧ Below w1.heap.size w1 w')
    (HT : ∀ o ∈ sysL, ∀ a ∈ procL, ofB (s ++ ⟨#[95]⟩ ++ o ++ ⟨#[95]⟩ ++ a ++ ⟨#[46, 103, 111]⟩) = (true, false, o, a))
    (HO : ∀ o ∈ sysL, ofB (s ++ ⟨#[95]⟩ ++ o ++ ⟨#[46, 103, 111]⟩) = (true, false, o, ⟨#[]⟩))
    (HA : ∀ a ∈ procL, ofB (s ++ ⟨#[95]⟩ ++ a ++ ⟨#[46, 103, 111]⟩) = (true, false, ⟨#[]⟩, a)) :
    Calls Tryd.prog 5 #[.string s, .int .i64 i, .int .i64 k, .bool false] w (LawEnd w) := by
  have H7 := Lib.hid (alive_any m w hm)
  have HC' := Lib.hid HC
  have HT' := Lib.hid HT
  have HO' := Lib.hid HO
  have HA' := Lib.hid HA
  clear HC HT HO HA
  have hleI : (s.size : Int) ≤ 512 := by omega
  go_enter Tryd.func5, Tryd.ntmps5
  go_wp2_with fail
  refine H7.out.mono ?_
  rintro e w1 ⟨rfl, hB⟩
  go_wp2_with fail
  refine (systems_is _).mono ?_
  rintro e w2 ⟨b, off, cap, rfl, hb, hcap, hmax, hcell, hB2⟩
  replace hB := hB.trans (hB2.mono hB.size)
  have Hcell := Lib.hid hcell
  clear hB2 hcell
  go_wp2_with fail
  refine (processors_is _).mono ?_
  rintro e w3 ⟨b2, off2, cap2, rfl, hb2, hcap2, hmax2, hcell2, hB2⟩
  have hc1 := fun i hi => (hB2.cell (p := ⟨b, off + i, none⟩) hb).trans (Hcell.out i hi)
  replace hB := hB.trans (hB2.mono hB.size)
  have Hc1 := Lib.hid hc1
  have Hc2 := Lib.hid hcell2
  clear hB2 hcell2 hc1 Hcell
  obtain ⟨I, hI⟩ := wrap_nat i
  obtain ⟨J, hJ⟩ := wrap_nat k
  have hw15 : IntKind.u64.wrap 15 = 15 := by decide
  have hw14 : IntKind.u64.wrap 14 = 14 := by decide
  obtain ⟨x, hx, hx15⟩ : ∃ x : Nat, (I : Int).tmod 15 = (x : Int) ∧ x < 15 := ⟨I % 15, rfl, by omega⟩
  obtain ⟨y, hy, hy14⟩ : ∃ y : Nat, (J : Int).tmod 14 = (y : Int) ∧ y < 14 := ⟨J % 14, rfl, by omega⟩
  have hwx : IntKind.i64.wrap (x : Int) = (x : Int) := wrap_small x (by omega)
  have hwy : IntKind.i64.wrap (y : Int) = (y : Int) := wrap_small y (by omega)
  have hcx := Hc1.out x hx15
  have hcy := Hc2.out y hy14
  obtain ⟨o, ho, hoe⟩ : ∃ o, o ∈ sysL ∧ sysL.getD x ByteArray.empty = o := ⟨_, getD_mem sysL x hx15, rfl⟩
  obtain ⟨a, ha, hae⟩ : ∃ a, a ∈ procL ∧ procL.getD y ByteArray.empty = a := ⟨_, getD_mem procL y hy14, rfl⟩
  rw [hoe] at hcx
  rw [hae] at hcy
  have hoz := known_size o (.inl ho)
  have haz := known_size a (.inr ha)
  have Ho := Lib.hid ho
  have Ha := Lib.hid ha
  clear hoe hae ho ha Hc1 Hc2
  go_wp2_with fail
  go_quiet (fail)
  replace hB := below_drewN hB nq
  generalize w3.drewN nq = w4 at *
  clear hcx hcy hI hJ hx hy hwx hwy hw15 hw14 hb hb2
  go_wp2_with fail
  refine (HC'.out _).mono ?_
  rintro e w5 ⟨g, capg, rfl, hg, hgs, hcapg, hmaxg, hB2⟩
  replace hB := hB.trans (hB2.mono hB.size)
  clear hB2
  go_wp2_with fail
  refine (of_to _ _ m w (HT'.out o Ho.out a Ha.out) (by simp only [app_size]; have h3 : (⟨#[95]⟩ : ByteArray).size = 1 := rfl; have h4 : (⟨#[46, 103, 111]⟩ : ByteArray).size = 3 := rfl; omega) hm _ hB).mono ?_
  rintro e w7 ⟨rfl, hB2⟩
  replace hB := hB.trans (hB2.mono hB.size)
  clear hB2
  unfold agg4
  go_wp2_with fail
  refine (of_to _ _ m w (HO'.out o Ho.out) (by simp only [app_size]; have h3 : (⟨#[95]⟩ : ByteArray).size = 1 := rfl; have h4 : (⟨#[46, 103, 111]⟩ : ByteArray).size = 3 := rfl; omega) hm _ hB).mono ?_
  rintro e w8 ⟨rfl, hB2⟩
  replace hB := hB.trans (hB2.mono hB.size)
  clear hB2
  unfold agg4
  go_wp2_with fail
  refine (of_to _ _ m w (HA'.out a Ha.out) (by simp only [app_size]; have h3 : (⟨#[95]⟩ : ByteArray).size = 1 := rfl; have h4 : (⟨#[46, 103, 111]⟩ : ByteArray).size = 3 := rfl; omega) hm _ hB).mono ?_
  rintro e w9 ⟨rfl, hB2⟩
  replace hB := hB.trans (hB2.mono hB.size)
  clear hB2
  unfold agg4
  go_wp2_with fail
  go_ret
  exact ⟨rfl, hB⟩

set_option maxHeartbeats 2000000 in
theorem tells_0sys (s : ByteArray) (n : Nat) (z : ByteArray) (i k : Int) (m : Int) (w : World) (hn : 2 ≤ n) (hn2 : n ≤ 1073741825) (hle : s.size ≤ 512) (h0 : 0 < s.size) (hm : w.cell? ⟨0, 0, none⟩ = some (.int .i64 m))
    (n1 : (!s.toList.isEmpty) = true) (n2 : (s.toList == ([] : List UInt8)) = false) (h3 : (((s[0]'h0).toNat : Int) == 95) = false) (h4 : (((s[0]'h0).toNat : Int) == 46) = false)
    (HC : ∀ w1, Calls Tryd.prog 20 #[.string s, .int .u8 95] w1 fun e w' => ∃ g cap, e = .returned (.slice (some ⟨g, 0, none⟩) n cap) ∧ w1.heap.size ≤ g ∧ g < w'.heap.size ∧ n ≤ cap ∧ cap ≤ 9223372036854775807 ∧ Below w1.heap.size w1 w' ∧ w'.cell? ⟨g, n - 1, none⟩ = some (.string z))
    (HT : ∀ o ∈ sysL, ∀ a ∈ procL, ofB (s ++ ⟨#[95]⟩ ++ o ++ ⟨#[95]⟩ ++ a ++ ⟨#[46, 103, 111]⟩) = (true, false, o, a))
    (HO : ∀ o ∈ sysL, ofB (s ++ ⟨#[95]⟩ ++ o ++ ⟨#[46, 103, 111]⟩) = (true, false, o, ⟨#[]⟩))
    (HZ : ∀ w1, Calls Tryd.prog 9 #[.string z] w1 fun e w' => e = .returned (.bool true) ∧ Below w1.heap.size w1 w') :
    Calls Tryd.prog 5 #[.string s, .int .i64 i, .int .i64 k, .bool false] w (LawEnd w) := by
  have H7 := Lib.hid (alive_any m w hm)
  have HC' := Lib.hid HC
  have HT' := Lib.hid HT
  have HO' := Lib.hid HO
  have HZ' := Lib.hid HZ
  clear HC HT HO HZ
  have hleI : (s.size : Int) ≤ 512 := by omega
  go_enter Tryd.func5, Tryd.ntmps5
  go_wp2_with fail
  refine H7.out.mono ?_
  rintro e w1 ⟨rfl, hB⟩
  go_wp2_with fail
  refine (systems_is _).mono ?_
  rintro e w2 ⟨b, off, cap, rfl, hb, hcap, hmax, hcell, hB2⟩
  replace hB := hB.trans (hB2.mono hB.size)
  have Hcell := Lib.hid hcell
  clear hB2 hcell
  go_wp2_with fail
  refine (processors_is _).mono ?_
  rintro e w3 ⟨b2, off2, cap2, rfl, hb2, hcap2, hmax2, hcell2, hB2⟩
  have hc1 := fun i hi => (hB2.cell (p := ⟨b, off + i, none⟩) hb).trans (Hcell.out i hi)
  replace hB := hB.trans (hB2.mono hB.size)
  have Hc1 := Lib.hid hc1
  have Hc2 := Lib.hid hcell2
  clear hB2 hcell2 hc1 Hcell
  obtain ⟨I, hI⟩ := wrap_nat i
  obtain ⟨J, hJ⟩ := wrap_nat k
  have hw15 : IntKind.u64.wrap 15 = 15 := by decide
  have hw14 : IntKind.u64.wrap 14 = 14 := by decide
  obtain ⟨x, hx, hx15⟩ : ∃ x : Nat, (I : Int).tmod 15 = (x : Int) ∧ x < 15 := ⟨I % 15, rfl, by omega⟩
  obtain ⟨y, hy, hy14⟩ : ∃ y : Nat, (J : Int).tmod 14 = (y : Int) ∧ y < 14 := ⟨J % 14, rfl, by omega⟩
  have hwx : IntKind.i64.wrap (x : Int) = (x : Int) := wrap_small x (by omega)
  have hwy : IntKind.i64.wrap (y : Int) = (y : Int) := wrap_small y (by omega)
  have hcx := Hc1.out x hx15
  have hcy := Hc2.out y hy14
  obtain ⟨o, ho, hoe⟩ : ∃ o, o ∈ sysL ∧ sysL.getD x ByteArray.empty = o := ⟨_, getD_mem sysL x hx15, rfl⟩
  obtain ⟨a, ha, hae⟩ : ∃ a, a ∈ procL ∧ procL.getD y ByteArray.empty = a := ⟨_, getD_mem procL y hy14, rfl⟩
  rw [hoe] at hcx
  rw [hae] at hcy
  have hoz := known_size o (.inl ho)
  have haz := known_size a (.inr ha)
  have Ho := Lib.hid ho
  have Ha := Lib.hid ha
  clear hoe hae ho ha Hc1 Hc2
  go_wp2_with fail
  go_quiet (fail)
  replace hB := below_drewN hB nq
  generalize w3.drewN nq = w4 at *
  clear hcx hcy hI hJ hx hy hwx hwy hw15 hw14 hb hb2
  go_wp2_with fail
  refine (HC'.out _).mono ?_
  rintro e w5 ⟨g, capg, rfl, hg, hgs, hcapg, hmaxg, hB2, hz⟩
  replace hB := hB.trans (hB2.mono hB.size)
  clear hB2
  go_wp2_with fail
  refine (HZ'.out _).mono ?_
  rintro e w6 ⟨rfl, hB2⟩
  replace hB := hB.trans (hB2.mono hB.size)
  clear hB2
  go_wp2_with fail
  refine (of_to _ _ m w (HT'.out o Ho.out a Ha.out) (by simp only [app_size]; have h3 : (⟨#[95]⟩ : ByteArray).size = 1 := rfl; have h4 : (⟨#[46, 103, 111]⟩ : ByteArray).size = 3 := rfl; omega) hm _ hB).mono ?_
  rintro e w7 ⟨rfl, hB2⟩
  replace hB := hB.trans (hB2.mono hB.size)
  clear hB2
  unfold agg4
  go_wp2_with fail
  refine (of_to _ _ m w (HO'.out o Ho.out) (by simp only [app_size]; have h3 : (⟨#[95]⟩ : ByteArray).size = 1 := rfl; have h4 : (⟨#[46, 103, 111]⟩ : ByteArray).size = 3 := rfl; omega) hm _ hB).mono ?_
  rintro e w8 ⟨rfl, hB2⟩
  replace hB := hB.trans (hB2.mono hB.size)
  clear hB2
  unfold agg4
  go_wp2_with fail
  go_ret
  exact ⟨rfl, hB⟩

set_option maxHeartbeats 2000000 in
theorem tells_0not (s : ByteArray) (n : Nat) (z : ByteArray) (i k : Int) (m : Int) (w : World) (hn : 2 ≤ n) (hn2 : n ≤ 1073741825) (hle : s.size ≤ 512) (h0 : 0 < s.size) (hm : w.cell? ⟨0, 0, none⟩ = some (.int .i64 m))
    (n1 : (!s.toList.isEmpty) = true) (n2 : (s.toList == ([] : List UInt8)) = false) (h3 : (((s[0]'h0).toNat : Int) == 95) = false) (h4 : (((s[0]'h0).toNat : Int) == 46) = false)
    (HC : ∀ w1, Calls Tryd.prog 20 #[.string s, .int .u8 95] w1 fun e w' => ∃ g cap, e = .returned (.slice (some ⟨g, 0, none⟩) n cap) ∧ w1.heap.size ≤ g ∧ g < w'.heap.size ∧ n ≤ cap ∧ cap ≤ 9223372036854775807 ∧ Below w1.heap.size w1 w' ∧ w'.cell? ⟨g, n - 1, none⟩ = some (.string z))
    (HT : ∀ o ∈ sysL, ∀ a ∈ procL, ofB (s ++ ⟨#[95]⟩ ++ o ++ ⟨#[95]⟩ ++ a ++ ⟨#[46, 103, 111]⟩) = (true, false, o, a))
    (HO : ∀ o ∈ sysL, ofB (s ++ ⟨#[95]⟩ ++ o ++ ⟨#[46, 103, 111]⟩) = (true, false, o, ⟨#[]⟩))
    (HA : ∀ a ∈ procL, ofB (s ++ ⟨#[95]⟩ ++ a ++ ⟨#[46, 103, 111]⟩) = (true, false, ⟨#[]⟩, a))
    (HZ : ∀ w1, Calls Tryd.prog 9 #[.string z] w1 fun e w' => e = .returned (.bool false) ∧ Below w1.heap.size w1 w') :
    Calls Tryd.prog 5 #[.string s, .int .i64 i, .int .i64 k, .bool false] w (LawEnd w) := by
  have H7 := Lib.hid (alive_any m w hm)
  have HC' := Lib.hid HC
  have HT' := Lib.hid HT
  have HO' := Lib.hid HO
  have HA' := Lib.hid HA
  have HZ' := Lib.hid HZ
  clear HC HT HO HA HZ
  have hleI : (s.size : Int) ≤ 512 := by omega
  go_enter Tryd.func5, Tryd.ntmps5
  go_wp2_with fail
  refine H7.out.mono ?_
  rintro e w1 ⟨rfl, hB⟩
  go_wp2_with fail
  refine (systems_is _).mono ?_
  rintro e w2 ⟨b, off, cap, rfl, hb, hcap, hmax, hcell, hB2⟩
  replace hB := hB.trans (hB2.mono hB.size)
  have Hcell := Lib.hid hcell
  clear hB2 hcell
  go_wp2_with fail
  refine (processors_is _).mono ?_
  rintro e w3 ⟨b2, off2, cap2, rfl, hb2, hcap2, hmax2, hcell2, hB2⟩
  have hc1 := fun i hi => (hB2.cell (p := ⟨b, off + i, none⟩) hb).trans (Hcell.out i hi)
  replace hB := hB.trans (hB2.mono hB.size)
  have Hc1 := Lib.hid hc1
  have Hc2 := Lib.hid hcell2
  clear hB2 hcell2 hc1 Hcell
  obtain ⟨I, hI⟩ := wrap_nat i
  obtain ⟨J, hJ⟩ := wrap_nat k
  have hw15 : IntKind.u64.wrap 15 = 15 := by decide
  have hw14 : IntKind.u64.wrap 14 = 14 := by decide
  obtain ⟨x, hx, hx15⟩ : ∃ x : Nat, (I : Int).tmod 15 = (x : Int) ∧ x < 15 := ⟨I % 15, rfl, by omega⟩
  obtain ⟨y, hy, hy14⟩ : ∃ y : Nat, (J : Int).tmod 14 = (y : Int) ∧ y < 14 := ⟨J % 14, rfl, by omega⟩
  have hwx : IntKind.i64.wrap (x : Int) = (x : Int) := wrap_small x (by omega)
  have hwy : IntKind.i64.wrap (y : Int) = (y : Int) := wrap_small y (by omega)
  have hcx := Hc1.out x hx15
  have hcy := Hc2.out y hy14
  obtain ⟨o, ho, hoe⟩ : ∃ o, o ∈ sysL ∧ sysL.getD x ByteArray.empty = o := ⟨_, getD_mem sysL x hx15, rfl⟩
  obtain ⟨a, ha, hae⟩ : ∃ a, a ∈ procL ∧ procL.getD y ByteArray.empty = a := ⟨_, getD_mem procL y hy14, rfl⟩
  rw [hoe] at hcx
  rw [hae] at hcy
  have hoz := known_size o (.inl ho)
  have haz := known_size a (.inr ha)
  have Ho := Lib.hid ho
  have Ha := Lib.hid ha
  clear hoe hae ho ha Hc1 Hc2
  go_wp2_with fail
  go_quiet (fail)
  replace hB := below_drewN hB nq
  generalize w3.drewN nq = w4 at *
  clear hcx hcy hI hJ hx hy hwx hwy hw15 hw14 hb hb2
  go_wp2_with fail
  refine (HC'.out _).mono ?_
  rintro e w5 ⟨g, capg, rfl, hg, hgs, hcapg, hmaxg, hB2, hz⟩
  replace hB := hB.trans (hB2.mono hB.size)
  clear hB2
  go_wp2_with fail
  refine (HZ'.out _).mono ?_
  rintro e w6 ⟨rfl, hB2⟩
  replace hB := hB.trans (hB2.mono hB.size)
  clear hB2
  go_wp2_with fail
  refine (of_to _ _ m w (HT'.out o Ho.out a Ha.out) (by simp only [app_size]; have h3 : (⟨#[95]⟩ : ByteArray).size = 1 := rfl; have h4 : (⟨#[46, 103, 111]⟩ : ByteArray).size = 3 := rfl; omega) hm _ hB).mono ?_
  rintro e w7 ⟨rfl, hB2⟩
  replace hB := hB.trans (hB2.mono hB.size)
  clear hB2
  unfold agg4
  go_wp2_with fail
  refine (of_to _ _ m w (HO'.out o Ho.out) (by simp only [app_size]; have h3 : (⟨#[95]⟩ : ByteArray).size = 1 := rfl; have h4 : (⟨#[46, 103, 111]⟩ : ByteArray).size = 3 := rfl; omega) hm _ hB).mono ?_
  rintro e w8 ⟨rfl, hB2⟩
  replace hB := hB.trans (hB2.mono hB.size)
  clear hB2
  unfold agg4
  go_wp2_with fail
  refine (of_to _ _ m w (HA'.out a Ha.out) (by simp only [app_size]; have h3 : (⟨#[95]⟩ : ByteArray).size = 1 := rfl; have h4 : (⟨#[46, 103, 111]⟩ : ByteArray).size = 3 := rfl; omega) hm _ hB).mono ?_
  rintro e w9 ⟨rfl, hB2⟩
  replace hB := hB.trans (hB2.mono hB.size)
  clear hB2
  unfold agg4
  go_wp2_with fail
  go_ret
  exact ⟨rfl, hB⟩

set_option maxHeartbeats 2000000 in
theorem tells_1one (s : ByteArray) (i k : Int) (m : Int) (w : World) (hle : s.size ≤ 512) (h0 : 0 < s.size) (hm : w.cell? ⟨0, 0, none⟩ = some (.int .i64 m))
    (n1 : (!s.toList.isEmpty) = true) (n2 : (s.toList == ([] : List UInt8)) = false) (h3 : (((s[0]'h0).toNat : Int) == 95) = false) (h4 : (((s[0]'h0).toNat : Int) == 46) = false)
    (HC : ∀ w1, Calls Tryd.prog 20 #[.string s, .int .u8 95] w1 fun e w' => ∃ g cap, e = .returned (.slice (some ⟨g, 0, none⟩) 1 cap) ∧ w1.heap.size ≤ g ∧ g < w'.heap.size ∧ 1 ≤ cap ∧ cap ≤ 9223372036854775807 ∧ Below w1.heap.size w1 w')
    (HT : ∀ o ∈ sysL, ∀ a ∈ procL, ofB (s ++ ⟨#[95]⟩ ++ o ++ ⟨#[95]⟩ ++ a ++ ⟨#[95, 116, 101, 115, 116, 46, 103, 111]⟩) = (true, true, o, a))
    (HO : ∀ o ∈ sysL, ofB (s ++ ⟨#[95]⟩ ++ o ++ ⟨#[95, 116, 101, 115, 116, 46, 103, 111]⟩) = (true, true, o, ⟨#[]⟩))
    (HA : ∀ a ∈ procL, ofB (s ++ ⟨#[95]⟩ ++ a ++ ⟨#[95, 116, 101, 115, 116, 46, 103, 111]⟩) = (true, true, ⟨#[]⟩, a)) :
    Calls Tryd.prog 5 #[.string s, .int .i64 i, .int .i64 k, .bool true] w (LawEnd w) := by
  have H7 := Lib.hid (alive_any m w hm)
  have HC' := Lib.hid HC
  have HT' := Lib.hid HT
  have HO' := Lib.hid HO
  have HA' := Lib.hid HA
  clear HC HT HO HA
  have hleI : (s.size : Int) ≤ 512 := by omega
  go_enter Tryd.func5, Tryd.ntmps5
  go_wp2_with fail
  refine H7.out.mono ?_
  rintro e w1 ⟨rfl, hB⟩
  go_wp2_with fail
  refine (systems_is _).mono ?_
  rintro e w2 ⟨b, off, cap, rfl, hb, hcap, hmax, hcell, hB2⟩
  replace hB := hB.trans (hB2.mono hB.size)
  have Hcell := Lib.hid hcell
  clear hB2 hcell
  go_wp2_with fail
  refine (processors_is _).mono ?_
  rintro e w3 ⟨b2, off2, cap2, rfl, hb2, hcap2, hmax2, hcell2, hB2⟩
  have hc1 := fun i hi => (hB2.cell (p := ⟨b, off + i, none⟩) hb).trans (Hcell.out i hi)
  replace hB := hB.trans (hB2.mono hB.size)
  have Hc1 := Lib.hid hc1
  have Hc2 := Lib.hid hcell2
  clear hB2 hcell2 hc1 Hcell
  obtain ⟨I, hI⟩ := wrap_nat i
  obtain ⟨J, hJ⟩ := wrap_nat k
  have hw15 : IntKind.u64.wrap 15 = 15 := by decide
  have hw14 : IntKind.u64.wrap 14 = 14 := by decide
  obtain ⟨x, hx, hx15⟩ : ∃ x : Nat, (I : Int).tmod 15 = (x : Int) ∧ x < 15 := ⟨I % 15, rfl, by omega⟩
  obtain ⟨y, hy, hy14⟩ : ∃ y : Nat, (J : Int).tmod 14 = (y : Int) ∧ y < 14 := ⟨J % 14, rfl, by omega⟩
  have hwx : IntKind.i64.wrap (x : Int) = (x : Int) := wrap_small x (by omega)
  have hwy : IntKind.i64.wrap (y : Int) = (y : Int) := wrap_small y (by omega)
  have hcx := Hc1.out x hx15
  have hcy := Hc2.out y hy14
  obtain ⟨o, ho, hoe⟩ : ∃ o, o ∈ sysL ∧ sysL.getD x ByteArray.empty = o := ⟨_, getD_mem sysL x hx15, rfl⟩
  obtain ⟨a, ha, hae⟩ : ∃ a, a ∈ procL ∧ procL.getD y ByteArray.empty = a := ⟨_, getD_mem procL y hy14, rfl⟩
  rw [hoe] at hcx
  rw [hae] at hcy
  have hoz := known_size o (.inl ho)
  have haz := known_size a (.inr ha)
  have Ho := Lib.hid ho
  have Ha := Lib.hid ha
  clear hoe hae ho ha Hc1 Hc2
  go_wp2_with fail
  go_quiet (fail)
  replace hB := below_drewN hB nq
  generalize w3.drewN nq = w4 at *
  clear hcx hcy hI hJ hx hy hwx hwy hw15 hw14 hb hb2
  go_wp2_with fail
  refine (HC'.out _).mono ?_
  rintro e w5 ⟨g, capg, rfl, hg, hgs, hcapg, hmaxg, hB2⟩
  replace hB := hB.trans (hB2.mono hB.size)
  clear hB2
  go_wp2_with fail
  refine (of_to _ _ m w (HT'.out o Ho.out a Ha.out) (by simp only [app_size]; have h3 : (⟨#[95]⟩ : ByteArray).size = 1 := rfl; have h4 : (⟨#[95, 116, 101, 115, 116, 46, 103, 111]⟩ : ByteArray).size = 8 := rfl; omega) hm _ hB).mono ?_
  rintro e w7 ⟨rfl, hB2⟩
  replace hB := hB.trans (hB2.mono hB.size)
  clear hB2
  unfold agg4
  go_wp2_with fail
  refine (of_to _ _ m w (HO'.out o Ho.out) (by simp only [app_size]; have h3 : (⟨#[95]⟩ : ByteArray).size = 1 := rfl; have h4 : (⟨#[95, 116, 101, 115, 116, 46, 103, 111]⟩ : ByteArray).size = 8 := rfl; omega) hm _ hB).mono ?_
  rintro e w8 ⟨rfl, hB2⟩
  replace hB := hB.trans (hB2.mono hB.size)
  clear hB2
  unfold agg4
  go_wp2_with fail
  refine (of_to _ _ m w (HA'.out a Ha.out) (by simp only [app_size]; have h3 : (⟨#[95]⟩ : ByteArray).size = 1 := rfl; have h4 : (⟨#[95, 116, 101, 115, 116, 46, 103, 111]⟩ : ByteArray).size = 8 := rfl; omega) hm _ hB).mono ?_
  rintro e w9 ⟨rfl, hB2⟩
  replace hB := hB.trans (hB2.mono hB.size)
  clear hB2
  unfold agg4
  go_wp2_with fail
  go_ret
  exact ⟨rfl, hB⟩

set_option maxHeartbeats 2000000 in
theorem tells_1sys (s : ByteArray) (n : Nat) (z : ByteArray) (i k : Int) (m : Int) (w : World) (hn : 2 ≤ n) (hn2 : n ≤ 1073741825) (hle : s.size ≤ 512) (h0 : 0 < s.size) (hm : w.cell? ⟨0, 0, none⟩ = some (.int .i64 m))
    (n1 : (!s.toList.isEmpty) = true) (n2 : (s.toList == ([] : List UInt8)) = false) (h3 : (((s[0]'h0).toNat : Int) == 95) = false) (h4 : (((s[0]'h0).toNat : Int) == 46) = false)
    (HC : ∀ w1, Calls Tryd.prog 20 #[.string s, .int .u8 95] w1 fun e w' => ∃ g cap, e = .returned (.slice (some ⟨g, 0, none⟩) n cap) ∧ w1.heap.size ≤ g ∧ g < w'.heap.size ∧ n ≤ cap ∧ cap ≤ 9223372036854775807 ∧ Below w1.heap.size w1 w' ∧ w'.cell? ⟨g, n - 1, none⟩ = some (.string z))
    (HT : ∀ o ∈ sysL, ∀ a ∈ procL, ofB (s ++ ⟨#[95]⟩ ++ o ++ ⟨#[95]⟩ ++ a ++ ⟨#[95, 116, 101, 115, 116, 46, 103, 111]⟩) = (true, true, o, a))
    (HO : ∀ o ∈ sysL, ofB (s ++ ⟨#[95]⟩ ++ o ++ ⟨#[95, 116, 101, 115, 116, 46, 103, 111]⟩) = (true, true, o, ⟨#[]⟩))
    (HZ : ∀ w1, Calls Tryd.prog 9 #[.string z] w1 fun e w' => e = .returned (.bool true) ∧ Below w1.heap.size w1 w') :
    Calls Tryd.prog 5 #[.string s, .int .i64 i, .int .i64 k, .bool true] w (LawEnd w) := by
  have H7 := Lib.hid (alive_any m w hm)
  have HC' := Lib.hid HC
  have HT' := Lib.hid HT
  have HO' := Lib.hid HO
  have HZ' := Lib.hid HZ
  clear HC HT HO HZ
  have hleI : (s.size : Int) ≤ 512 := by omega
  go_enter Tryd.func5, Tryd.ntmps5
  go_wp2_with fail
  refine H7.out.mono ?_
  rintro e w1 ⟨rfl, hB⟩
  go_wp2_with fail
  refine (systems_is _).mono ?_
  rintro e w2 ⟨b, off, cap, rfl, hb, hcap, hmax, hcell, hB2⟩
  replace hB := hB.trans (hB2.mono hB.size)
  have Hcell := Lib.hid hcell
  clear hB2 hcell
  go_wp2_with fail
  refine (processors_is _).mono ?_
  rintro e w3 ⟨b2, off2, cap2, rfl, hb2, hcap2, hmax2, hcell2, hB2⟩
  have hc1 := fun i hi => (hB2.cell (p := ⟨b, off + i, none⟩) hb).trans (Hcell.out i hi)
  replace hB := hB.trans (hB2.mono hB.size)
  have Hc1 := Lib.hid hc1
  have Hc2 := Lib.hid hcell2
  clear hB2 hcell2 hc1 Hcell
  obtain ⟨I, hI⟩ := wrap_nat i
  obtain ⟨J, hJ⟩ := wrap_nat k
  have hw15 : IntKind.u64.wrap 15 = 15 := by decide
  have hw14 : IntKind.u64.wrap 14 = 14 := by decide
  obtain ⟨x, hx, hx15⟩ : ∃ x : Nat, (I : Int).tmod 15 = (x : Int) ∧ x < 15 := ⟨I % 15, rfl, by omega⟩
  obtain ⟨y, hy, hy14⟩ : ∃ y : Nat, (J : Int).tmod 14 = (y : Int) ∧ y < 14 := ⟨J % 14, rfl, by omega⟩
  have hwx : IntKind.i64.wrap (x : Int) = (x : Int) := wrap_small x (by omega)
  have hwy : IntKind.i64.wrap (y : Int) = (y : Int) := wrap_small y (by omega)
  have hcx := Hc1.out x hx15
  have hcy := Hc2.out y hy14
  obtain ⟨o, ho, hoe⟩ : ∃ o, o ∈ sysL ∧ sysL.getD x ByteArray.empty = o := ⟨_, getD_mem sysL x hx15, rfl⟩
  obtain ⟨a, ha, hae⟩ : ∃ a, a ∈ procL ∧ procL.getD y ByteArray.empty = a := ⟨_, getD_mem procL y hy14, rfl⟩
  rw [hoe] at hcx
  rw [hae] at hcy
  have hoz := known_size o (.inl ho)
  have haz := known_size a (.inr ha)
  have Ho := Lib.hid ho
  have Ha := Lib.hid ha
  clear hoe hae ho ha Hc1 Hc2
  go_wp2_with fail
  go_quiet (fail)
  replace hB := below_drewN hB nq
  generalize w3.drewN nq = w4 at *
  clear hcx hcy hI hJ hx hy hwx hwy hw15 hw14 hb hb2
  go_wp2_with fail
  refine (HC'.out _).mono ?_
  rintro e w5 ⟨g, capg, rfl, hg, hgs, hcapg, hmaxg, hB2, hz⟩
  replace hB := hB.trans (hB2.mono hB.size)
  clear hB2
  go_wp2_with fail
  refine (HZ'.out _).mono ?_
  rintro e w6 ⟨rfl, hB2⟩
  replace hB := hB.trans (hB2.mono hB.size)
  clear hB2
  go_wp2_with fail
  refine (of_to _ _ m w (HT'.out o Ho.out a Ha.out) (by simp only [app_size]; have h3 : (⟨#[95]⟩ : ByteArray).size = 1 := rfl; have h4 : (⟨#[95, 116, 101, 115, 116, 46, 103, 111]⟩ : ByteArray).size = 8 := rfl; omega) hm _ hB).mono ?_
  rintro e w7 ⟨rfl, hB2⟩
  replace hB := hB.trans (hB2.mono hB.size)
  clear hB2
  unfold agg4
  go_wp2_with fail
  refine (of_to _ _ m w (HO'.out o Ho.out) (by simp only [app_size]; have h3 : (⟨#[95]⟩ : ByteArray).size = 1 := rfl; have h4 : (⟨#[95, 116, 101, 115, 116, 46, 103, 111]⟩ : ByteArray).size = 8 := rfl; omega) hm _ hB).mono ?_
  rintro e w8 ⟨rfl, hB2⟩
  replace hB := hB.trans (hB2.mono hB.size)
  clear hB2
  unfold agg4
  go_wp2_with fail
  go_ret
  exact ⟨rfl, hB⟩

set_option maxHeartbeats 2000000 in
theorem tells_1not (s : ByteArray) (n : Nat) (z : ByteArray) (i k : Int) (m : Int) (w : World) (hn : 2 ≤ n) (hn2 : n ≤ 1073741825) (hle : s.size ≤ 512) (h0 : 0 < s.size) (hm : w.cell? ⟨0, 0, none⟩ = some (.int .i64 m))
    (n1 : (!s.toList.isEmpty) = true) (n2 : (s.toList == ([] : List UInt8)) = false) (h3 : (((s[0]'h0).toNat : Int) == 95) = false) (h4 : (((s[0]'h0).toNat : Int) == 46) = false)
    (HC : ∀ w1, Calls Tryd.prog 20 #[.string s, .int .u8 95] w1 fun e w' => ∃ g cap, e = .returned (.slice (some ⟨g, 0, none⟩) n cap) ∧ w1.heap.size ≤ g ∧ g < w'.heap.size ∧ n ≤ cap ∧ cap ≤ 9223372036854775807 ∧ Below w1.heap.size w1 w' ∧ w'.cell? ⟨g, n - 1, none⟩ = some (.string z))
    (HT : ∀ o ∈ sysL, ∀ a ∈ procL, ofB (s ++ ⟨#[95]⟩ ++ o ++ ⟨#[95]⟩ ++ a ++ ⟨#[95, 116, 101, 115, 116, 46, 103, 111]⟩) = (true, true, o, a))
    (HO : ∀ o ∈ sysL, ofB (s ++ ⟨#[95]⟩ ++ o ++ ⟨#[95, 116, 101, 115, 116, 46, 103, 111]⟩) = (true, true, o, ⟨#[]⟩))
    (HA : ∀ a ∈ procL, ofB (s ++ ⟨#[95]⟩ ++ a ++ ⟨#[95, 116, 101, 115, 116, 46, 103, 111]⟩) = (true, true, ⟨#[]⟩, a))
    (HZ : ∀ w1, Calls Tryd.prog 9 #[.string z] w1 fun e w' => e = .returned (.bool false) ∧ Below w1.heap.size w1 w') :
    Calls Tryd.prog 5 #[.string s, .int .i64 i, .int .i64 k, .bool true] w (LawEnd w) := by
  have H7 := Lib.hid (alive_any m w hm)
  have HC' := Lib.hid HC
  have HT' := Lib.hid HT
  have HO' := Lib.hid HO
  have HA' := Lib.hid HA
  have HZ' := Lib.hid HZ
  clear HC HT HO HA HZ
  have hleI : (s.size : Int) ≤ 512 := by omega
  go_enter Tryd.func5, Tryd.ntmps5
  go_wp2_with fail
  refine H7.out.mono ?_
  rintro e w1 ⟨rfl, hB⟩
  go_wp2_with fail
  refine (systems_is _).mono ?_
  rintro e w2 ⟨b, off, cap, rfl, hb, hcap, hmax, hcell, hB2⟩
  replace hB := hB.trans (hB2.mono hB.size)
  have Hcell := Lib.hid hcell
  clear hB2 hcell
  go_wp2_with fail
  refine (processors_is _).mono ?_
  rintro e w3 ⟨b2, off2, cap2, rfl, hb2, hcap2, hmax2, hcell2, hB2⟩
  have hc1 := fun i hi => (hB2.cell (p := ⟨b, off + i, none⟩) hb).trans (Hcell.out i hi)
  replace hB := hB.trans (hB2.mono hB.size)
  have Hc1 := Lib.hid hc1
  have Hc2 := Lib.hid hcell2
  clear hB2 hcell2 hc1 Hcell
  obtain ⟨I, hI⟩ := wrap_nat i
  obtain ⟨J, hJ⟩ := wrap_nat k
  have hw15 : IntKind.u64.wrap 15 = 15 := by decide
  have hw14 : IntKind.u64.wrap 14 = 14 := by decide
  obtain ⟨x, hx, hx15⟩ : ∃ x : Nat, (I : Int).tmod 15 = (x : Int) ∧ x < 15 := ⟨I % 15, rfl, by omega⟩
  obtain ⟨y, hy, hy14⟩ : ∃ y : Nat, (J : Int).tmod 14 = (y : Int) ∧ y < 14 := ⟨J % 14, rfl, by omega⟩
  have hwx : IntKind.i64.wrap (x : Int) = (x : Int) := wrap_small x (by omega)
  have hwy : IntKind.i64.wrap (y : Int) = (y : Int) := wrap_small y (by omega)
  have hcx := Hc1.out x hx15
  have hcy := Hc2.out y hy14
  obtain ⟨o, ho, hoe⟩ : ∃ o, o ∈ sysL ∧ sysL.getD x ByteArray.empty = o := ⟨_, getD_mem sysL x hx15, rfl⟩
  obtain ⟨a, ha, hae⟩ : ∃ a, a ∈ procL ∧ procL.getD y ByteArray.empty = a := ⟨_, getD_mem procL y hy14, rfl⟩
  rw [hoe] at hcx
  rw [hae] at hcy
  have hoz := known_size o (.inl ho)
  have haz := known_size a (.inr ha)
  have Ho := Lib.hid ho
  have Ha := Lib.hid ha
  clear hoe hae ho ha Hc1 Hc2
  go_wp2_with fail
  go_quiet (fail)
  replace hB := below_drewN hB nq
  generalize w3.drewN nq = w4 at *
  clear hcx hcy hI hJ hx hy hwx hwy hw15 hw14 hb hb2
  go_wp2_with fail
  refine (HC'.out _).mono ?_
  rintro e w5 ⟨g, capg, rfl, hg, hgs, hcapg, hmaxg, hB2, hz⟩
  replace hB := hB.trans (hB2.mono hB.size)
  clear hB2
  go_wp2_with fail
  refine (HZ'.out _).mono ?_
  rintro e w6 ⟨rfl, hB2⟩
  replace hB := hB.trans (hB2.mono hB.size)
  clear hB2
  go_wp2_with fail
  refine (of_to _ _ m w (HT'.out o Ho.out a Ha.out) (by simp only [app_size]; have h3 : (⟨#[95]⟩ : ByteArray).size = 1 := rfl; have h4 : (⟨#[95, 116, 101, 115, 116, 46, 103, 111]⟩ : ByteArray).size = 8 := rfl; omega) hm _ hB).mono ?_
  rintro e w7 ⟨rfl, hB2⟩
  replace hB := hB.trans (hB2.mono hB.size)
  clear hB2
  unfold agg4
  go_wp2_with fail
  refine (of_to _ _ m w (HO'.out o Ho.out) (by simp only [app_size]; have h3 : (⟨#[95]⟩ : ByteArray).size = 1 := rfl; have h4 : (⟨#[95, 116, 101, 115, 116, 46, 103, 111]⟩ : ByteArray).size = 8 := rfl; omega) hm _ hB).mono ?_
  rintro e w8 ⟨rfl, hB2⟩
  replace hB := hB.trans (hB2.mono hB.size)
  clear hB2
  unfold agg4
  go_wp2_with fail
  refine (of_to _ _ m w (HA'.out a Ha.out) (by simp only [app_size]; have h3 : (⟨#[95]⟩ : ByteArray).size = 1 := rfl; have h4 : (⟨#[95, 116, 101, 115, 116, 46, 103, 111]⟩ : ByteArray).size = 8 := rfl; omega) hm _ hB).mono ?_
  rintro e w9 ⟨rfl, hB2⟩
  replace hB := hB.trans (hB2.mono hB.size)
  clear hB2
  unfold agg4
  go_wp2_with fail
  go_ret
  exact ⟨rfl, hB⟩
set_option maxHeartbeats 1000000 in
theorem tells_long (s : ByteArray) (i k : Int) (t : Bool) (m : Int) (w : World) (hm : w.cell? ⟨0, 0, none⟩ = some (.int .i64 m)) (hleI : ¬ (s.size : Int) ≤ 512) :
    Calls Tryd.prog 5 #[.string s, .int .i64 i, .int .i64 k, .bool t] w (LawEnd w) := by
  have H7 := Lib.hid (alive_any m w hm)
  go_enter Tryd.func5, Tryd.ntmps5
  go_wp2_with fail
  refine H7.out.mono ?_
  rintro e w1 ⟨rfl, hB⟩
  go_wp2_with fail
  go_ret
  exact ⟨rfl, hB⟩
set_option maxHeartbeats 1000000 in
theorem tells_empty (s : ByteArray) (i k : Int) (t : Bool) (m : Int) (w : World) (hm : w.cell? ⟨0, 0, none⟩ = some (.int .i64 m)) (he : s = ⟨#[]⟩) :
    Calls Tryd.prog 5 #[.string s, .int .i64 i, .int .i64 k, .bool t] w (LawEnd w) := by
  have H7 := Lib.hid (alive_any m w hm)
  subst he
  go_enter Tryd.func5, Tryd.ntmps5
  go_wp2_with fail
  refine H7.out.mono ?_
  rintro e w1 ⟨rfl, hB⟩
  go_wp2_with fail
  go_ret
  exact ⟨rfl, hB⟩
set_option maxHeartbeats 1000000 in
theorem tells_pa (s : ByteArray) (i k : Int) (t : Bool) (m : Int) (w : World) (hm : w.cell? ⟨0, 0, none⟩ = some (.int .i64 m)) (hleI : (s.size : Int) ≤ 512) (n1 : (!s.toList.isEmpty) = true) (n2 : (s.toList == ([] : List UInt8)) = false) (h0 : 0 < s.size) (h3 : (((s[0]'h0).toNat : Int) == 95) = true) :
    Calls Tryd.prog 5 #[.string s, .int .i64 i, .int .i64 k, .bool t] w (LawEnd w) := by
  have H7 := Lib.hid (alive_any m w hm)
  go_enter Tryd.func5, Tryd.ntmps5
  go_wp2_with fail
  refine H7.out.mono ?_
  rintro e w1 ⟨rfl, hB⟩
  go_wp2_with fail
  go_ret
  exact ⟨rfl, hB⟩
set_option maxHeartbeats 1000000 in
theorem tells_pb (s : ByteArray) (i k : Int) (t : Bool) (m : Int) (w : World) (hm : w.cell? ⟨0, 0, none⟩ = some (.int .i64 m)) (hleI : (s.size : Int) ≤ 512) (n1 : (!s.toList.isEmpty) = true) (n2 : (s.toList == ([] : List UInt8)) = false) (h0 : 0 < s.size) (h3 : (((s[0]'h0).toNat : Int) == 95) = false) (h4 : (((s[0]'h0).toNat : Int) == 46) = true) :
    Calls Tryd.prog 5 #[.string s, .int .i64 i, .int .i64 k, .bool t] w (LawEnd w) := by
  have H7 := Lib.hid (alive_any m w hm)
  go_enter Tryd.func5, Tryd.ntmps5
  go_wp2_with fail
  refine H7.out.mono ?_
  rintro e w1 ⟨rfl, hB⟩
  go_wp2_with fail
  go_ret
  exact ⟨rfl, hB⟩
theorem tells_walk (s : ByteArray) (i k : Int) (t : Bool) (m : Int) (w : World) (hm : w.cell? ⟨0, 0, none⟩ = some (.int .i64 m)) :
    Calls Tryd.prog 5 #[.string s, .int .i64 i, .int .i64 k, .bool t] w (LawEnd w) := by
  by_cases hle : s.size ≤ 512
  · have hleI : (s.size : Int) ≤ 512 := by omega
    cases hs1 : some1 s with
    | false => exact tells_empty s i k t m w hm (empty_of s hs1)
    | true =>
      have h0 : 0 < s.size := by
        by_cases h : s.size = 0
        · unfold some1 at hs1; rw [h] at hs1; cases hs1
        · omega
      have n1 := toList_some s hs1
      have n2 : (s.toList == ([] : List UInt8)) = false := by
        have := toList_empty s hs1
        rw [Lib.toList_data ⟨#[]⟩] at this
        exact this
      have e1 := head_is s h0 95
      have e2 := head_is s h0 46
      by_cases p1 : (s.data.toList.head? == some 95) = true
      · exact tells_pa s i k t m w hm hleI n1 n2 h0 (e1.trans p1)
      have p1 := Bool.eq_false_iff.2 p1
      by_cases p2 : (s.data.toList.head? == some 46) = true
      · exact tells_pb s i k t m w hm hleI n1 n2 h0 (e1.trans p1) (e2.trans p2)
      have p2 := Bool.eq_false_iff.2 p2
      have hp : passB s = false := by unfold passB; rw [p1, p2]; rfl
      have h3 := e1.trans p1
      have h4 := e2.trans p2
      have HC := cut95 s (by omega)
      have hlen := cnt_len (cutB 95 s)
      rw [cutB_cnt] at hlen
      have hpos := cutB_ne 95 s
      have HZ := refSystem_any ((cutB 95 s).getD ((cutB 95 s).length - 1) ByteArray.empty)
      have hT0 := fun o ho a ha => told_two s o a ⟨#[46, 103, 111]⟩ false h0 hp ho ha rfl
      have hT1 := fun o ho a ha => told_two s o a ⟨#[95, 116, 101, 115, 116, 46, 103, 111]⟩ true h0 hp ho ha rfl
      have hO0 := fun o ho => told_os s o ⟨#[46, 103, 111]⟩ false h0 hp ho rfl
      have hO1 := fun o ho => told_os s o ⟨#[95, 116, 101, 115, 116, 46, 103, 111]⟩ true h0 hp ho rfl
      have hA0 := fun hl a ha => told_arch s a ⟨#[46, 103, 111]⟩ false h0 hp ha hl rfl
      have hA1 := fun hl a ha => told_arch s a ⟨#[95, 116, 101, 115, 116, 46, 103, 111]⟩ true h0 hp ha hl rfl
      clear e1 e2 p1 p2
      generalize cutB 95 s = L at *
      generalize L.length = n at *
      generalize L.getD (n - 1) ByteArray.empty = z at *
      by_cases hn1 : n = 1
      · subst hn1
        have HC' : ∀ w1, Calls Tryd.prog 20 #[.string s, .int .u8 95] w1 fun e w' => ∃ g cap, e = .returned (.slice (some ⟨g, 0, none⟩) 1 cap) ∧ w1.heap.size ≤ g ∧ g < w'.heap.size ∧ 1 ≤ cap ∧ cap ≤ 9223372036854775807 ∧ Below w1.heap.size w1 w' :=
          fun w1 => (HC w1).mono (by rintro e w' ⟨g, cap, he, a1, a2, a3, a4, a5, a6, a7⟩; exact ⟨g, cap, he, a1, a2, a3, a4, a5⟩)
        cases t
        · exact tells_0one s i k m w hle h0 hm n1 n2 h3 h4 HC' hT0 hO0 (hA0 (.inl rfl))
        · exact tells_1one s i k m w hle h0 hm n1 n2 h3 h4 HC' hT1 hO1 (hA1 (.inl rfl))
      · have hn : 2 ≤ n := by omega
        have hn2 : n ≤ 1073741825 := by omega
        have HC' : ∀ w1, Calls Tryd.prog 20 #[.string s, .int .u8 95] w1 fun e w' => ∃ g cap, e = .returned (.slice (some ⟨g, 0, none⟩) n cap) ∧ w1.heap.size ≤ g ∧ g < w'.heap.size ∧ n ≤ cap ∧ cap ≤ 9223372036854775807 ∧ Below w1.heap.size w1 w' ∧ w'.cell? ⟨g, n - 1, none⟩ = some (.string z) :=
          fun w1 => (HC w1).mono (by rintro e w' ⟨g, cap, he, a1, a2, a3, a4, a5, a6, a7⟩; exact ⟨g, cap, he, a1, a2, a3, a4, a5, a6⟩)
        cases hc : inB sysL z with
        | true =>
          rw [hc] at HZ
          cases t
          · exact tells_0sys s n z i k m w hn hn2 hle h0 hm n1 n2 h3 h4 HC' hT0 hO0 HZ
          · exact tells_1sys s n z i k m w hn hn2 hle h0 hm n1 n2 h3 h4 HC' hT1 hO1 HZ
        | false =>
          rw [hc] at HZ
          cases t
          · exact tells_0not s n z i k m w hn hn2 hle h0 hm n1 n2 h3 h4 HC' hT0 hO0 (hA0 (.inr hc)) HZ
          · exact tells_1not s n z i k m w hn hn2 hle h0 hm n1 n2 h3 h4 HC' hT1 hO1 (hA1 (.inr hc)) HZ
  · exact tells_long s i k t m w hm (by omega)
end Go.Proofs.YtlgmnhjdnmjpgaaDoor
