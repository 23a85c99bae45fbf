/- Walks: the statement CondNames. -/
import Derived.Test.YtpibehfmbmincaaGreatDoorCf
import Derived.Test.YtpibehfmbmincaaGreatDoorXm
namespace Go.Proofs.YtpibehfmbmincaaGreatDoor
set_option linter.unusedVariables false
open Go.ChangeShapes Go.WideShapes Go.ChangeAt Go.RowKit

theorem systems_is (w : World) : Calls Tryz.prog 11 #[] w fun e w' => ∃ b off cap, e = .returned (.slice (some ⟨b, off, none⟩) 15 cap) ∧ b < w'.heap.size ∧ 15 ≤ cap ∧ cap ≤ 9223372036854775807 ∧ (∀ i, i < 15 → w'.cell? ⟨b, off + i, none⟩ = some (.string (sysL.getD i ByteArray.empty))) ∧ Below w.heap.size w w' := by
  refine (systems_any w).mono ?_
  rintro e w' ⟨v, rfl, hv, hB⟩
  obtain ⟨p, cap, rfl, hp⟩ := strs_shape hv
  obtain ⟨b, off, rfl, hb, hcap, hmax, hcell⟩ := hp (by decide)
  unfold maxLen at hmax
  have hl : sysL.length = 15 := by decide
  rw [hl] at hcap hcell ⊢
  exact ⟨b, off, cap, rfl, hb, hcap, by omega, hcell, hB⟩
theorem processors_is (w : World) : Calls Tryz.prog 12 #[] w fun e w' => ∃ b off cap, e = .returned (.slice (some ⟨b, off, none⟩) 14 cap) ∧ b < w'.heap.size ∧ 14 ≤ cap ∧ cap ≤ 9223372036854775807 ∧ (∀ i, i < 14 → w'.cell? ⟨b, off + i, none⟩ = some (.string (procL.getD i ByteArray.empty))) ∧ Below w.heap.size w w' := by
  refine (processors_any w).mono ?_
  rintro e w' ⟨v, rfl, hv, hB⟩
  obtain ⟨p, cap, rfl, hp⟩ := strs_shape hv
  obtain ⟨b, off, rfl, hb, hcap, hmax, hcell⟩ := hp (by decide)
  unfold maxLen at hmax
  have hl : procL.length = 14 := by decide
  rw [hl] at hcap hcell ⊢
  exact ⟨b, off, cap, rfl, hb, hcap, by omega, hcell, hB⟩
theorem wrap_small (x : Nat) (h : x < 1000) : IntKind.i64.wrap (x : Int) = (x : Int) := by
  simp [IntKind.wrap, IntKind.bits, IntKind.signed]; omega
theorem wrap_nat (i : Int) : ∃ I : Nat, IntKind.u64.wrap i = (I : Int) := by
  refine ⟨(IntKind.u64.wrap i).toNat, ?_⟩
  have : 0 ≤ IntKind.u64.wrap i := by simp [IntKind.wrap, IntKind.bits, IntKind.signed]; omega
  omega
/-- names told -/
theorem told (b : ByteArray) (h0 : 0 < b.size) (hp : passB b = false) (ht : endsB b testE = false) (t : Bool) (E : ByteArray) (hE : E = if t then ⟨#[95, 116, 101, 115, 116, 46, 103, 111]⟩ else ⟨#[46, 103, 111]⟩) : ofB (b ++ E) = (true, t, tagsB (cutB 95 b)) := by
  subst hE
  cases t
  · exact ofB_go b h0 hp ht
  · exact ofB_test b h0 hp
theorem known_size (z : ByteArray) (h : z ∈ sysL ∨ z ∈ procL) : z.size ≤ 9 := by
  have hall : ((sysL ++ procL).all fun y => decide (y.size ≤ 9)) = true := by decide +kernel
  exact of_decide_eq_true (List.all_eq_true.1 hall z (List.mem_append.2 h))
theorem told_two (s o a E : ByteArray) (t : Bool) (h0 : 0 < s.size) (hp : passB s = false) (ho : o ∈ sysL) (ha : a ∈ procL) (hE : E = if t then ⟨#[95, 116, 101, 115, 116, 46, 103, 111]⟩ else ⟨#[46, 103, 111]⟩) : ofB (s ++ ⟨#[95]⟩ ++ o ++ ⟨#[95]⟩ ++ a ++ E) = (true, t, o, a) := by
  rw [told (s ++ ⟨#[95]⟩ ++ o ++ ⟨#[95]⟩ ++ a) (by simp only [app_size]; omega) ?_ (not_test _ a (.inr ha)) t E hE, cut_app _ a (known_free a (.inr ha)).1, cut_app _ o (known_free o (.inl ho)).1, tags_two (cutB_ne 95 s) ho ha]
  rw [app_assoc, app_assoc, app_assoc, pass_app _ _ h0]; exact hp
theorem told_os (s o E : ByteArray) (t : Bool) (h0 : 0 < s.size) (hp : passB s = false) (ho : o ∈ sysL) (hE : E = if t then ⟨#[95, 116, 101, 115, 116, 46, 103, 111]⟩ else ⟨#[46, 103, 111]⟩) : ofB (s ++ ⟨#[95]⟩ ++ o ++ E) = (true, t, o, ⟨#[]⟩) := by
  rw [told (s ++ ⟨#[95]⟩ ++ o) (by simp only [app_size]; omega) ?_ (not_test _ o (.inl ho)) t E hE, cut_app _ o (known_free o (.inl ho)).1, tags_one (cutB_ne 95 s) ho]
  rw [app_assoc, pass_app _ _ h0]; exact hp
theorem told_arch (s a E : ByteArray) (t : Bool) (h0 : 0 < s.size) (hp : passB s = false) (ha : a ∈ procL) (hl : (cutB 95 s).length = 1 ∨ inB sysL ((cutB 95 s).getD ((cutB 95 s).length - 1) ByteArray.empty) = false) (hE : E = if t then ⟨#[95, 116, 101, 115, 116, 46, 103, 111]⟩ else ⟨#[46, 103, 111]⟩) : ofB (s ++ ⟨#[95]⟩ ++ a ++ E) = (true, t, ⟨#[]⟩, a) := by
  rw [told (s ++ ⟨#[95]⟩ ++ a) (by simp only [app_size]; omega) ?_ (not_test _ a (.inr ha)) t E hE, cut_app _ a (known_free a (.inr ha)).1, tags_proc (cutB_ne 95 s) ha hl]
  rw [app_assoc, pass_app _ _ h0]; exact hp

theorem getD_memT (L : List ByteArray) (x : Nat) (h : x < L.length) : L.getD x ByteArray.empty ∈ L := by
  simp only [List.getD, List.getElem?_eq_getElem h, Option.getD_some]
  exact List.getElem_mem h


def extE (t : Bool) : ByteArray := if t then ⟨#[95, 116, 101, 115, 116, 46, 103, 111]⟩ else ⟨#[46, 103, 111]⟩
def wantN (t : Bool) : Int := if t then 2 else 1
def plainH : Hd := ⟨⟨#[112]⟩, [], ⟨#[]⟩, 0⟩
theorem inR_plain (c : Cf) (t : Bool) (x y : ByteArray) : inR c (true, t, x, y) plainH = if outB c x || outB c y then (0, 0) else (wantN t, 0) := by
  unfold inR plainH
  have h : holdsR c ⟨#[]⟩ = (true, 0) := by unfold holdsR; rw [if_pos rfl]
  have hv : varN (true, t, x, y) ⟨#[112]⟩ = wantN t := by
    have : endsB (⟨#[112]⟩ : ByteArray) testE = false := by decide +kernel
    unfold varN
    rw [this]
    cases t <;> rfl
  simp only [h, hv]
  simp
theorem known_some (z : ByteArray) (h : z ∈ sysL ∨ z ∈ procL) : z ≠ ⟨#[]⟩ := by
  have hall : ((sysL ++ procL).all fun y => !(decide (y = ⟨#[]⟩))) = true := by decide +kernel
  have := List.all_eq_true.1 hall z (List.mem_append.2 h)
  simpa using this
theorem outB_known (c : Cf) (z : ByteArray) (h : z ∈ sysL ∨ z ∈ procL) : outB c z = !(onB c z) := by
  unfold outB
  rw [decide_eq_false (known_some z h)]; rfl
theorem outB_none (c : Cf) : outB c ⟨#[]⟩ = false := by
  unfold outB
  rw [decide_eq_true rfl]; rfl
theorem plain_ext (t : Bool) : ofB (⟨#[120]⟩ ++ extE t) = (true, t, ⟨#[]⟩, ⟨#[]⟩) := by cases t <;> decide +kernel
theorem plain_pass : passB ⟨#[120]⟩ = false := by decide +kernel
theorem xu : (⟨#[120, 95]⟩ : ByteArray) = ⟨#[120]⟩ ++ ⟨#[95]⟩ := by decide +kernel
theorem x_os (o : ByteArray) (t : Bool) (ho : o ∈ sysL) : ofB (⟨#[120, 95]⟩ ++ o ++ extE t) = (true, t, o, ⟨#[]⟩) := by
  rw [xu]; exact told_os _ o _ t (by decide) plain_pass ho rfl
theorem x_two (o a : ByteArray) (t : Bool) (ho : o ∈ sysL) (ha : a ∈ procL) : ofB (⟨#[120, 95]⟩ ++ o ++ ⟨#[95]⟩ ++ a ++ extE t) = (true, t, o, a) := by
  rw [xu]; exact told_two _ o a _ t (by decide) plain_pass ho ha rfl
theorem x_arch (a : ByteArray) (t : Bool) (ha : a ∈ procL) : ofB (⟨#[120, 95]⟩ ++ a ++ extE t) = (true, t, ⟨#[]⟩, a) := by
  rw [xu]; exact told_arch _ a _ t (by decide) plain_pass ha (.inl (by decide +kernel)) rfl
theorem ext_size (t : Bool) : (extE t).size ≤ 8 := by cases t <;> decide

set_option maxRecDepth 100000 in
set_option maxHeartbeats 2000000 in
theorem nam_great (os arch : ByteArray) (cgo : Bool) (lv i k : Int) (t : Bool) (p : Option Addr) (m cp : Nat) (w : World)
    (HA : Hid (∀ w1, Below w.heap.size w w1 → Calls Tryz.prog 6 #[] w1 fun e w' => e = .returned (.bool true) ∧ Below w1.heap.size w1 w'))
    (HG : Hid (∀ w1, Below w.heap.size w w1 → Calls Tryz.prog 7 #[.agg #[.string os, .string arch, .bool cgo, .int .i64 lv, .slice p m cp]] w1 fun e w' => e = .returned (.bool true) ∧ Below w1.heap.size w1 w')) :
    Calls Tryz.prog 5 #[.agg #[.string os, .string arch, .bool cgo, .int .i64 lv, .slice p m cp], .int .i64 i, .int .i64 k, .bool t] w (LawEnd w) := by
  have M0 := mem1_new w #[.string os, .string arch, .bool cgo, .int .i64 lv, .slice p m cp] 24
  go_enter Tryz.func5, Tryz.ntmps5
  go_wp2_with fail
  refine (HA.out _ M0.bl).mono ?_
  rintro e w1 ⟨rfl, hB1⟩
  have M1 := M0.next hB1
  clear hB1 M0
  have M1a0 : w1.cell? ⟨w.heap.size, 0, none⟩ = some (.string os) := M1.a 0
  have M1a1 : w1.cell? ⟨w.heap.size, 1, none⟩ = some (.string arch) := M1.a 1
  have M1a2 : w1.cell? ⟨w.heap.size, 2, none⟩ = some (.bool cgo) := M1.a 2
  have M1a3 : w1.cell? ⟨w.heap.size, 3, none⟩ = some (.int .i64 lv) := M1.a 3
  have M1a4 : w1.cell? ⟨w.heap.size, 4, none⟩ = some (.slice p m cp) := M1.a 4
  have M1l := M1.l
  go_wp2_with fail
  refine (HG.out _ M1.bl).mono ?_
  rintro e w2 ⟨rfl, hB2⟩
  have M2 := M1.next hB2
  clear M1a0 M1a1 M1a2 M1a3 M1a4 M1l
  clear hB2 M1
  have M2a0 : w2.cell? ⟨w.heap.size, 0, none⟩ = some (.string os) := M2.a 0
  have M2a1 : w2.cell? ⟨w.heap.size, 1, none⟩ = some (.string arch) := M2.a 1
  have M2a2 : w2.cell? ⟨w.heap.size, 2, none⟩ = some (.bool cgo) := M2.a 2
  have M2a3 : w2.cell? ⟨w.heap.size, 3, none⟩ = some (.int .i64 lv) := M2.a 3
  have M2a4 : w2.cell? ⟨w.heap.size, 4, none⟩ = some (.slice p m cp) := M2.a 4
  have M2l := M2.l
  go_wp2_with fail
  go_ret
  exact ⟨rfl, M2.bl⟩
set_option maxRecDepth 100000 in
set_option maxHeartbeats 4000000 in
theorem nam_false (os arch : ByteArray) (cgo : Bool) (lv i k : Int) (p : Option Addr) (m cp : Nat) (w : World)
    (HA : Hid (∀ w1, Below w.heap.size w w1 → Calls Tryz.prog 6 #[] w1 fun e w' => e = .returned (.bool true) ∧ Below w1.heap.size w1 w'))
    (HG : Hid (∀ w1, Below w.heap.size w w1 → Calls Tryz.prog 7 #[.agg #[.string os, .string arch, .bool cgo, .int .i64 lv, .slice p m cp]] w1 fun e w' => e = .returned (.bool false) ∧ Below w1.heap.size w1 w'))
    (onS : ByteArray → Bool)
    (HF : Hid (∀ w1, Below w.heap.size w w1 → Calls Tryz.prog 10 #[.agg #[.string os, .string arch, .bool cgo, .int .i64 lv, .slice p m cp], .string (⟨#[120]⟩ ++ ⟨#[46, 103, 111]⟩), .agg #[.string ⟨#[112]⟩, .slice none 0 0, .string ⟨#[]⟩, .slice none 0 0, .int .i64 0, .int .i64 0]] w1 fun e w' => e = .returned (.tuple #[.int .i64 (1), .int .i64 0]) ∧ Below w1.heap.size w1 w'))
    (HS : Hid (∀ o, o ∈ sysL → ∀ b, onS o = b → ∀ w1, Below w.heap.size w w1 → Calls Tryz.prog 10 #[.agg #[.string os, .string arch, .bool cgo, .int .i64 lv, .slice p m cp], .string (⟨#[120, 95]⟩ ++ o ++ ⟨#[46, 103, 111]⟩), .agg #[.string ⟨#[112]⟩, .slice none 0 0, .string ⟨#[]⟩, .slice none 0 0, .int .i64 0, .int .i64 0]] w1 fun e w' => e = .returned (.tuple #[.int .i64 (cond b 1 0), .int .i64 0]) ∧ Below w1.heap.size w1 w'))
    (HP : Hid (∀ a, a ∈ procL → ∀ b, onS a = b → ∀ w1, Below w.heap.size w w1 → Calls Tryz.prog 10 #[.agg #[.string os, .string arch, .bool cgo, .int .i64 lv, .slice p m cp], .string (⟨#[120, 95]⟩ ++ a ++ ⟨#[46, 103, 111]⟩), .agg #[.string ⟨#[112]⟩, .slice none 0 0, .string ⟨#[]⟩, .slice none 0 0, .int .i64 0, .int .i64 0]] w1 fun e w' => e = .returned (.tuple #[.int .i64 (cond b 1 0), .int .i64 0]) ∧ Below w1.heap.size w1 w'))
    (HB : Hid (∀ o, o ∈ sysL → ∀ a, a ∈ procL → ∀ b, (onS o && onS a) = b → ∀ w1, Below w.heap.size w w1 → Calls Tryz.prog 10 #[.agg #[.string os, .string arch, .bool cgo, .int .i64 lv, .slice p m cp], .string (⟨#[120, 95]⟩ ++ o ++ ⟨#[95]⟩ ++ a ++ ⟨#[46, 103, 111]⟩), .agg #[.string ⟨#[112]⟩, .slice none 0 0, .string ⟨#[]⟩, .slice none 0 0, .int .i64 0, .int .i64 0]] w1 fun e w' => e = .returned (.tuple #[.int .i64 (cond b 1 0), .int .i64 0]) ∧ Below w1.heap.size w1 w'))
    (HO : Hid (∀ t, t.size ≤ 9 → ∀ w1, Below w.heap.size w w1 → Calls Tryz.prog 8 #[.agg #[.string os, .string arch, .bool cgo, .int .i64 lv, .slice p m cp], .string t] w1 fun e w' => e = .returned (.bool (onS t)) ∧ Below w1.heap.size w1 w')) :
    Calls Tryz.prog 5 #[.agg #[.string os, .string arch, .bool cgo, .int .i64 lv, .slice p m cp], .int .i64 i, .int .i64 k, .bool false] w (LawEnd w) := by
  have M0 := mem1_new w #[.string os, .string arch, .bool cgo, .int .i64 lv, .slice p m cp] 24
  go_enter Tryz.func5, Tryz.ntmps5
  go_wp2_with fail
  refine (HA.out _ M0.bl).mono ?_
  rintro e w1 ⟨rfl, hB1⟩
  have M1 := M0.next hB1
  clear hB1 M0
  have M1a0 : w1.cell? ⟨w.heap.size, 0, none⟩ = some (.string os) := M1.a 0
  have M1a1 : w1.cell? ⟨w.heap.size, 1, none⟩ = some (.string arch) := M1.a 1
  have M1a2 : w1.cell? ⟨w.heap.size, 2, none⟩ = some (.bool cgo) := M1.a 2
  have M1a3 : w1.cell? ⟨w.heap.size, 3, none⟩ = some (.int .i64 lv) := M1.a 3
  have M1a4 : w1.cell? ⟨w.heap.size, 4, none⟩ = some (.slice p m cp) := M1.a 4
  have M1l := M1.l
  go_wp2_with fail
  refine (HG.out _ M1.bl).mono ?_
  rintro e w2 ⟨rfl, hB2⟩
  have M2 := M1.next hB2
  clear M1a0 M1a1 M1a2 M1a3 M1a4 M1l
  clear hB2 M1
  have M2a0 : w2.cell? ⟨w.heap.size, 0, none⟩ = some (.string os) := M2.a 0
  have M2a1 : w2.cell? ⟨w.heap.size, 1, none⟩ = some (.string arch) := M2.a 1
  have M2a2 : w2.cell? ⟨w.heap.size, 2, none⟩ = some (.bool cgo) := M2.a 2
  have M2a3 : w2.cell? ⟨w.heap.size, 3, none⟩ = some (.int .i64 lv) := M2.a 3
  have M2a4 : w2.cell? ⟨w.heap.size, 4, none⟩ = some (.slice p m cp) := M2.a 4
  have M2l := M2.l
  go_wp2_with fail
  refine (systems_is _).mono ?_
  rintro e w3 ⟨b, off, cap, rfl, hb, hcap, hmax, hcell, hB3⟩
  have M3 := M2.next hB3
  clear M2a0 M2a1 M2a2 M2a3 M2a4 M2l
  have Hcell := Lib.hid hcell
  clear hB3 hcell M2
  have M3a0 : w3.cell? ⟨w.heap.size, 0, none⟩ = some (.string os) := M3.a 0
  have M3a1 : w3.cell? ⟨w.heap.size, 1, none⟩ = some (.string arch) := M3.a 1
  have M3a2 : w3.cell? ⟨w.heap.size, 2, none⟩ = some (.bool cgo) := M3.a 2
  have M3a3 : w3.cell? ⟨w.heap.size, 3, none⟩ = some (.int .i64 lv) := M3.a 3
  have M3a4 : w3.cell? ⟨w.heap.size, 4, none⟩ = some (.slice p m cp) := M3.a 4
  have M3l := M3.l
  go_wp2_with fail
  refine (processors_is _).mono ?_
  rintro e w4 ⟨b2, off2, cap2, rfl, hb2, hcap2, hmax2, hcell2, hB4⟩
  have M4 := M3.next hB4
  have Hc1 := Lib.hid (fun i hi => (hB4.cell (p := ⟨b, off + i, none⟩) hb).trans (Hcell.out i hi))
  have Hc2 := Lib.hid hcell2
  clear M3a0 M3a1 M3a2 M3a3 M3a4 M3l
  clear hB4 hcell2 Hcell M3
  obtain ⟨I, hI⟩ := wrap_nat i
  obtain ⟨J, hJ⟩ := wrap_nat k
  have hw15 : IntKind.u64.wrap 15 = 15 := by decide
  have hw14 : IntKind.u64.wrap 14 = 14 := by decide
  obtain ⟨x, hx, hx15⟩ : ∃ x : Nat, (I : Int).tmod 15 = (x : Int) ∧ x < 15 := ⟨I % 15, rfl, by omega⟩
  obtain ⟨y, hy, hy14⟩ : ∃ y : Nat, (J : Int).tmod 14 = (y : Int) ∧ y < 14 := ⟨J % 14, rfl, by omega⟩
  have hwx : IntKind.i64.wrap (x : Int) = (x : Int) := wrap_small x (by omega)
  have hwy : IntKind.i64.wrap (y : Int) = (y : Int) := wrap_small y (by omega)
  have hcx := Hc1.out x hx15
  have hcy := Hc2.out y hy14
  obtain ⟨o, ho, hoe⟩ : ∃ o, o ∈ sysL ∧ sysL.getD x ByteArray.empty = o := ⟨_, getD_memT sysL x hx15, rfl⟩
  obtain ⟨a, ha, hae⟩ : ∃ a, a ∈ procL ∧ procL.getD y ByteArray.empty = a := ⟨_, getD_memT procL y hy14, rfl⟩
  rw [hoe] at hcx
  rw [hae] at hcy
  have hoz := known_size o (.inl ho)
  have haz := known_size a (.inr ha)
  have Ho := Lib.hid ho
  have Ha := Lib.hid ha
  clear hoe hae ho ha Hc1 Hc2
  go_wp2_with fail
  go_quiet (fail)
  have M5 := M4.next (below_drewN (Below.refl w4.heap.size w4) nq)
  clear M4
  generalize w4.drewN nq = w5 at *
  clear hcx hcy hI hJ hx hy hwx hwy hw15 hw14 hb hb2
  have M5a0 : w5.cell? ⟨w.heap.size, 0, none⟩ = some (.string os) := M5.a 0
  have M5a1 : w5.cell? ⟨w.heap.size, 1, none⟩ = some (.string arch) := M5.a 1
  have M5a2 : w5.cell? ⟨w.heap.size, 2, none⟩ = some (.bool cgo) := M5.a 2
  have M5a3 : w5.cell? ⟨w.heap.size, 3, none⟩ = some (.int .i64 lv) := M5.a 3
  have M5a4 : w5.cell? ⟨w.heap.size, 4, none⟩ = some (.slice p m cp) := M5.a 4
  have M5l := M5.l
  have HSo := HS.out o Ho.out
  have HPa := HP.out a Ha.out
  have HBo := HB.out o Ho.out a Ha.out
  have HOo := HO.out o hoz
  have HOa := HO.out a haz
  cases hbo : onS o <;> cases hba : onS a <;> rw [hbo] at HOo <;> rw [hba] at HOa <;> rw [hbo, hba] at HBo
  · have HS1 := Lib.hid (HSo false hbo)
    have HP1 := Lib.hid (HPa false hba)
    have HB1 := Lib.hid (HBo false rfl)
    have HO1 := Lib.hid HOo
    have HO2 := Lib.hid HOa
    clear HSo HPa HBo HOo HOa HS HP HB HO hbo hba
    simp only [cond_false] at HS1 HP1 HB1
    go_wp2_with fail
    have M6 := M5.alloc (Obj.cells #[.string ⟨#[112]⟩, .slice none 0 0, .string ⟨#[]⟩, .slice none 0 0, .int .i64 0, .int .i64 0] 33)
    have N6 := mem1_new w5 #[.string ⟨#[112]⟩, .slice none 0 0, .string ⟨#[]⟩, .slice none 0 0, .int .i64 0, .int .i64 0] 33
    refine (HF.out _ M6.bl).mono ?_
    rintro e w7 ⟨rfl, hB7⟩
    have M7 := M6.next hB7
    have N7 := N6.next hB7
    clear M5a0 M5a1 M5a2 M5a3 M5a4 M5l
    clear hB7 M6 N6
    have M7a0 : w7.cell? ⟨w.heap.size, 0, none⟩ = some (.string os) := M7.a 0
    have M7a1 : w7.cell? ⟨w.heap.size, 1, none⟩ = some (.string arch) := M7.a 1
    have M7a2 : w7.cell? ⟨w.heap.size, 2, none⟩ = some (.bool cgo) := M7.a 2
    have M7a3 : w7.cell? ⟨w.heap.size, 3, none⟩ = some (.int .i64 lv) := M7.a 3
    have M7a4 : w7.cell? ⟨w.heap.size, 4, none⟩ = some (.slice p m cp) := M7.a 4
    have M7l := M7.l
    have N7a0 : w7.cell? ⟨w5.heap.size, 0, none⟩ = some (.string ⟨#[112]⟩) := N7.a 0
    have N7a1 : w7.cell? ⟨w5.heap.size, 1, none⟩ = some (.slice none 0 0) := N7.a 1
    have N7a2 : w7.cell? ⟨w5.heap.size, 2, none⟩ = some (.string ⟨#[]⟩) := N7.a 2
    have N7a3 : w7.cell? ⟨w5.heap.size, 3, none⟩ = some (.slice none 0 0) := N7.a 3
    have N7a4 : w7.cell? ⟨w5.heap.size, 4, none⟩ = some (.int .i64 0) := N7.a 4
    have N7a5 : w7.cell? ⟨w5.heap.size, 5, none⟩ = some (.int .i64 0) := N7.a 5
    have N7l := N7.l
    go_wp2_with fail
    refine (HS1.out _ M7.bl).mono ?_
    rintro e w8 ⟨rfl, hB8⟩
    have M8 := M7.next hB8
    have N8 := N7.next hB8
    clear M7a0 M7a1 M7a2 M7a3 M7a4 M7l
    clear N7a0 N7a1 N7a2 N7a3 N7a4 N7a5 N7l
    clear hB8 M7 N7
    have M8a0 : w8.cell? ⟨w.heap.size, 0, none⟩ = some (.string os) := M8.a 0
    have M8a1 : w8.cell? ⟨w.heap.size, 1, none⟩ = some (.string arch) := M8.a 1
    have M8a2 : w8.cell? ⟨w.heap.size, 2, none⟩ = some (.bool cgo) := M8.a 2
    have M8a3 : w8.cell? ⟨w.heap.size, 3, none⟩ = some (.int .i64 lv) := M8.a 3
    have M8a4 : w8.cell? ⟨w.heap.size, 4, none⟩ = some (.slice p m cp) := M8.a 4
    have M8l := M8.l
    have N8a0 : w8.cell? ⟨w5.heap.size, 0, none⟩ = some (.string ⟨#[112]⟩) := N8.a 0
    have N8a1 : w8.cell? ⟨w5.heap.size, 1, none⟩ = some (.slice none 0 0) := N8.a 1
    have N8a2 : w8.cell? ⟨w5.heap.size, 2, none⟩ = some (.string ⟨#[]⟩) := N8.a 2
    have N8a3 : w8.cell? ⟨w5.heap.size, 3, none⟩ = some (.slice none 0 0) := N8.a 3
    have N8a4 : w8.cell? ⟨w5.heap.size, 4, none⟩ = some (.int .i64 0) := N8.a 4
    have N8a5 : w8.cell? ⟨w5.heap.size, 5, none⟩ = some (.int .i64 0) := N8.a 5
    have N8l := N8.l
    go_wp2_with fail
    refine (HP1.out _ M8.bl).mono ?_
    rintro e w9 ⟨rfl, hB9⟩
    have M9 := M8.next hB9
    have N9 := N8.next hB9
    clear M8a0 M8a1 M8a2 M8a3 M8a4 M8l
    clear N8a0 N8a1 N8a2 N8a3 N8a4 N8a5 N8l
    clear hB9 M8 N8
    have M9a0 : w9.cell? ⟨w.heap.size, 0, none⟩ = some (.string os) := M9.a 0
    have M9a1 : w9.cell? ⟨w.heap.size, 1, none⟩ = some (.string arch) := M9.a 1
    have M9a2 : w9.cell? ⟨w.heap.size, 2, none⟩ = some (.bool cgo) := M9.a 2
    have M9a3 : w9.cell? ⟨w.heap.size, 3, none⟩ = some (.int .i64 lv) := M9.a 3
    have M9a4 : w9.cell? ⟨w.heap.size, 4, none⟩ = some (.slice p m cp) := M9.a 4
    have M9l := M9.l
    have N9a0 : w9.cell? ⟨w5.heap.size, 0, none⟩ = some (.string ⟨#[112]⟩) := N9.a 0
    have N9a1 : w9.cell? ⟨w5.heap.size, 1, none⟩ = some (.slice none 0 0) := N9.a 1
    have N9a2 : w9.cell? ⟨w5.heap.size, 2, none⟩ = some (.string ⟨#[]⟩) := N9.a 2
    have N9a3 : w9.cell? ⟨w5.heap.size, 3, none⟩ = some (.slice none 0 0) := N9.a 3
    have N9a4 : w9.cell? ⟨w5.heap.size, 4, none⟩ = some (.int .i64 0) := N9.a 4
    have N9a5 : w9.cell? ⟨w5.heap.size, 5, none⟩ = some (.int .i64 0) := N9.a 5
    have N9l := N9.l
    go_wp2_with fail
    refine (HB1.out _ M9.bl).mono ?_
    rintro e w10 ⟨rfl, hB10⟩
    have M10 := M9.next hB10
    have N10 := N9.next hB10
    clear M9a0 M9a1 M9a2 M9a3 M9a4 M9l
    clear N9a0 N9a1 N9a2 N9a3 N9a4 N9a5 N9l
    clear hB10 M9 N9
    obtain ⟨tk, hbk⟩ := M10.bk
    have HL := Lib.hid (fun v1 (h1 : Below w10.heap.size w10 v1) => (h1.block _ M10.l).trans hbk)
    have HO1R := Lib.hid (fun v1 (h1 : Below w10.heap.size w10 v1) => (HO1.out v1 (M10.bl.trans (h1.mono M10.bl.size))).mono (fun e v2 hh => (⟨hh.1, h1.trans (hh.2.mono h1.size)⟩ : e = .returned (.bool false) ∧ Below w10.heap.size w10 v2)))
    have HO2R := Lib.hid (fun v1 (h1 : Below w10.heap.size w10 v1) => (HO2.out v1 (M10.bl.trans (h1.mono M10.bl.size))).mono (fun e v2 hh => (⟨hh.1, h1.trans (hh.2.mono h1.size)⟩ : e = .returned (.bool false) ∧ Below w10.heap.size w10 v2)))
    have Hb := Lib.hid M10.bl
    clear hbk M10 N10
    go_wp2_with fail
    refine wp_region_class (Below w10.heap.size w10) (by kernel_rfl) (by kernel_rfl) (Below.refl _ _).drew ?_
    refine wpQuiet_load_row rfl 24 (.tmp 4) rfl w.heap.size rfl tk #[.string os, .string arch, .bool cgo, .int .i64 lv, .slice p m cp] (0, 0) _ HL.out Tryz.underlying24 rfl (by kernel_rfl) ?_
    simp only [Act.put, List.setIfInBounds_toArray, List.set_cons_succ, List.set_cons_zero]
    repeat (go_big_quiet_step (first | (intro hh; with_reducible exact HO1R.out _ hh) | (intro hh; with_reducible exact HO2R.out _ hh)))
    refine wpQuiet_load_row rfl 24 (.tmp 4) rfl w.heap.size rfl tk #[.string os, .string arch, .bool cgo, .int .i64 lv, .slice p m cp] (0, 0) _ HL.out Tryz.underlying24 rfl (by kernel_rfl) ?_
    simp only [Act.put, List.setIfInBounds_toArray, List.set_cons_succ, List.set_cons_zero]
    repeat (go_big_quiet_step (first | (intro hh; with_reducible exact HO1R.out _ hh) | (intro hh; with_reducible exact HO2R.out _ hh)))
    refine wpQuiet_nil ?_
    intro wq hBq
    have hb7 := Hb.out.trans (hBq.mono Hb.out.size)
    clear hBq
    go_wp2_with fail
    go_ret
    exact ⟨rfl, hb7⟩
  · have HS1 := Lib.hid (HSo false hbo)
    have HP1 := Lib.hid (HPa true hba)
    have HB1 := Lib.hid (HBo false rfl)
    have HO1 := Lib.hid HOo
    have HO2 := Lib.hid HOa
    clear HSo HPa HBo HOo HOa HS HP HB HO hbo hba
    simp only [cond_true, cond_false] at HS1 HP1 HB1
    go_wp2_with fail
    have M6 := M5.alloc (Obj.cells #[.string ⟨#[112]⟩, .slice none 0 0, .string ⟨#[]⟩, .slice none 0 0, .int .i64 0, .int .i64 0] 33)
    have N6 := mem1_new w5 #[.string ⟨#[112]⟩, .slice none 0 0, .string ⟨#[]⟩, .slice none 0 0, .int .i64 0, .int .i64 0] 33
    refine (HF.out _ M6.bl).mono ?_
    rintro e w7 ⟨rfl, hB7⟩
    have M7 := M6.next hB7
    have N7 := N6.next hB7
    clear M5a0 M5a1 M5a2 M5a3 M5a4 M5l
    clear hB7 M6 N6
    have M7a0 : w7.cell? ⟨w.heap.size, 0, none⟩ = some (.string os) := M7.a 0
    have M7a1 : w7.cell? ⟨w.heap.size, 1, none⟩ = some (.string arch) := M7.a 1
    have M7a2 : w7.cell? ⟨w.heap.size, 2, none⟩ = some (.bool cgo) := M7.a 2
    have M7a3 : w7.cell? ⟨w.heap.size, 3, none⟩ = some (.int .i64 lv) := M7.a 3
    have M7a4 : w7.cell? ⟨w.heap.size, 4, none⟩ = some (.slice p m cp) := M7.a 4
    have M7l := M7.l
    have N7a0 : w7.cell? ⟨w5.heap.size, 0, none⟩ = some (.string ⟨#[112]⟩) := N7.a 0
    have N7a1 : w7.cell? ⟨w5.heap.size, 1, none⟩ = some (.slice none 0 0) := N7.a 1
    have N7a2 : w7.cell? ⟨w5.heap.size, 2, none⟩ = some (.string ⟨#[]⟩) := N7.a 2
    have N7a3 : w7.cell? ⟨w5.heap.size, 3, none⟩ = some (.slice none 0 0) := N7.a 3
    have N7a4 : w7.cell? ⟨w5.heap.size, 4, none⟩ = some (.int .i64 0) := N7.a 4
    have N7a5 : w7.cell? ⟨w5.heap.size, 5, none⟩ = some (.int .i64 0) := N7.a 5
    have N7l := N7.l
    go_wp2_with fail
    refine (HS1.out _ M7.bl).mono ?_
    rintro e w8 ⟨rfl, hB8⟩
    have M8 := M7.next hB8
    have N8 := N7.next hB8
    clear M7a0 M7a1 M7a2 M7a3 M7a4 M7l
    clear N7a0 N7a1 N7a2 N7a3 N7a4 N7a5 N7l
    clear hB8 M7 N7
    have M8a0 : w8.cell? ⟨w.heap.size, 0, none⟩ = some (.string os) := M8.a 0
    have M8a1 : w8.cell? ⟨w.heap.size, 1, none⟩ = some (.string arch) := M8.a 1
    have M8a2 : w8.cell? ⟨w.heap.size, 2, none⟩ = some (.bool cgo) := M8.a 2
    have M8a3 : w8.cell? ⟨w.heap.size, 3, none⟩ = some (.int .i64 lv) := M8.a 3
    have M8a4 : w8.cell? ⟨w.heap.size, 4, none⟩ = some (.slice p m cp) := M8.a 4
    have M8l := M8.l
    have N8a0 : w8.cell? ⟨w5.heap.size, 0, none⟩ = some (.string ⟨#[112]⟩) := N8.a 0
    have N8a1 : w8.cell? ⟨w5.heap.size, 1, none⟩ = some (.slice none 0 0) := N8.a 1
    have N8a2 : w8.cell? ⟨w5.heap.size, 2, none⟩ = some (.string ⟨#[]⟩) := N8.a 2
    have N8a3 : w8.cell? ⟨w5.heap.size, 3, none⟩ = some (.slice none 0 0) := N8.a 3
    have N8a4 : w8.cell? ⟨w5.heap.size, 4, none⟩ = some (.int .i64 0) := N8.a 4
    have N8a5 : w8.cell? ⟨w5.heap.size, 5, none⟩ = some (.int .i64 0) := N8.a 5
    have N8l := N8.l
    go_wp2_with fail
    refine (HP1.out _ M8.bl).mono ?_
    rintro e w9 ⟨rfl, hB9⟩
    have M9 := M8.next hB9
    have N9 := N8.next hB9
    clear M8a0 M8a1 M8a2 M8a3 M8a4 M8l
    clear N8a0 N8a1 N8a2 N8a3 N8a4 N8a5 N8l
    clear hB9 M8 N8
    have M9a0 : w9.cell? ⟨w.heap.size, 0, none⟩ = some (.string os) := M9.a 0
    have M9a1 : w9.cell? ⟨w.heap.size, 1, none⟩ = some (.string arch) := M9.a 1
    have M9a2 : w9.cell? ⟨w.heap.size, 2, none⟩ = some (.bool cgo) := M9.a 2
    have M9a3 : w9.cell? ⟨w.heap.size, 3, none⟩ = some (.int .i64 lv) := M9.a 3
    have M9a4 : w9.cell? ⟨w.heap.size, 4, none⟩ = some (.slice p m cp) := M9.a 4
    have M9l := M9.l
    have N9a0 : w9.cell? ⟨w5.heap.size, 0, none⟩ = some (.string ⟨#[112]⟩) := N9.a 0
    have N9a1 : w9.cell? ⟨w5.heap.size, 1, none⟩ = some (.slice none 0 0) := N9.a 1
    have N9a2 : w9.cell? ⟨w5.heap.size, 2, none⟩ = some (.string ⟨#[]⟩) := N9.a 2
    have N9a3 : w9.cell? ⟨w5.heap.size, 3, none⟩ = some (.slice none 0 0) := N9.a 3
    have N9a4 : w9.cell? ⟨w5.heap.size, 4, none⟩ = some (.int .i64 0) := N9.a 4
    have N9a5 : w9.cell? ⟨w5.heap.size, 5, none⟩ = some (.int .i64 0) := N9.a 5
    have N9l := N9.l
    go_wp2_with fail
    refine (HB1.out _ M9.bl).mono ?_
    rintro e w10 ⟨rfl, hB10⟩
    have M10 := M9.next hB10
    have N10 := N9.next hB10
    clear M9a0 M9a1 M9a2 M9a3 M9a4 M9l
    clear N9a0 N9a1 N9a2 N9a3 N9a4 N9a5 N9l
    clear hB10 M9 N9
    obtain ⟨tk, hbk⟩ := M10.bk
    have HL := Lib.hid (fun v1 (h1 : Below w10.heap.size w10 v1) => (h1.block _ M10.l).trans hbk)
    have HO1R := Lib.hid (fun v1 (h1 : Below w10.heap.size w10 v1) => (HO1.out v1 (M10.bl.trans (h1.mono M10.bl.size))).mono (fun e v2 hh => (⟨hh.1, h1.trans (hh.2.mono h1.size)⟩ : e = .returned (.bool false) ∧ Below w10.heap.size w10 v2)))
    have HO2R := Lib.hid (fun v1 (h1 : Below w10.heap.size w10 v1) => (HO2.out v1 (M10.bl.trans (h1.mono M10.bl.size))).mono (fun e v2 hh => (⟨hh.1, h1.trans (hh.2.mono h1.size)⟩ : e = .returned (.bool true) ∧ Below w10.heap.size w10 v2)))
    have Hb := Lib.hid M10.bl
    clear hbk M10 N10
    go_wp2_with fail
    refine wp_region_class (Below w10.heap.size w10) (by kernel_rfl) (by kernel_rfl) (Below.refl _ _).drew ?_
    refine wpQuiet_load_row rfl 24 (.tmp 4) rfl w.heap.size rfl tk #[.string os, .string arch, .bool cgo, .int .i64 lv, .slice p m cp] (0, 0) _ HL.out Tryz.underlying24 rfl (by kernel_rfl) ?_
    simp only [Act.put, List.setIfInBounds_toArray, List.set_cons_succ, List.set_cons_zero]
    repeat (go_big_quiet_step (first | (intro hh; with_reducible exact HO1R.out _ hh) | (intro hh; with_reducible exact HO2R.out _ hh)))
    refine wpQuiet_load_row rfl 24 (.tmp 4) rfl w.heap.size rfl tk #[.string os, .string arch, .bool cgo, .int .i64 lv, .slice p m cp] (0, 0) _ HL.out Tryz.underlying24 rfl (by kernel_rfl) ?_
    simp only [Act.put, List.setIfInBounds_toArray, List.set_cons_succ, List.set_cons_zero]
    repeat (go_big_quiet_step (first | (intro hh; with_reducible exact HO1R.out _ hh) | (intro hh; with_reducible exact HO2R.out _ hh)))
    refine wpQuiet_nil ?_
    intro wq hBq
    have hb7 := Hb.out.trans (hBq.mono Hb.out.size)
    clear hBq
    go_wp2_with fail
    go_ret
    exact ⟨rfl, hb7⟩
  · have HS1 := Lib.hid (HSo true hbo)
    have HP1 := Lib.hid (HPa false hba)
    have HB1 := Lib.hid (HBo false rfl)
    have HO1 := Lib.hid HOo
    have HO2 := Lib.hid HOa
    clear HSo HPa HBo HOo HOa HS HP HB HO hbo hba
    simp only [cond_true, cond_false] at HS1 HP1 HB1
    go_wp2_with fail
    have M6 := M5.alloc (Obj.cells #[.string ⟨#[112]⟩, .slice none 0 0, .string ⟨#[]⟩, .slice none 0 0, .int .i64 0, .int .i64 0] 33)
    have N6 := mem1_new w5 #[.string ⟨#[112]⟩, .slice none 0 0, .string ⟨#[]⟩, .slice none 0 0, .int .i64 0, .int .i64 0] 33
    refine (HF.out _ M6.bl).mono ?_
    rintro e w7 ⟨rfl, hB7⟩
    have M7 := M6.next hB7
    have N7 := N6.next hB7
    clear M5a0 M5a1 M5a2 M5a3 M5a4 M5l
    clear hB7 M6 N6
    have M7a0 : w7.cell? ⟨w.heap.size, 0, none⟩ = some (.string os) := M7.a 0
    have M7a1 : w7.cell? ⟨w.heap.size, 1, none⟩ = some (.string arch) := M7.a 1
    have M7a2 : w7.cell? ⟨w.heap.size, 2, none⟩ = some (.bool cgo) := M7.a 2
    have M7a3 : w7.cell? ⟨w.heap.size, 3, none⟩ = some (.int .i64 lv) := M7.a 3
    have M7a4 : w7.cell? ⟨w.heap.size, 4, none⟩ = some (.slice p m cp) := M7.a 4
    have M7l := M7.l
    have N7a0 : w7.cell? ⟨w5.heap.size, 0, none⟩ = some (.string ⟨#[112]⟩) := N7.a 0
    have N7a1 : w7.cell? ⟨w5.heap.size, 1, none⟩ = some (.slice none 0 0) := N7.a 1
    have N7a2 : w7.cell? ⟨w5.heap.size, 2, none⟩ = some (.string ⟨#[]⟩) := N7.a 2
    have N7a3 : w7.cell? ⟨w5.heap.size, 3, none⟩ = some (.slice none 0 0) := N7.a 3
    have N7a4 : w7.cell? ⟨w5.heap.size, 4, none⟩ = some (.int .i64 0) := N7.a 4
    have N7a5 : w7.cell? ⟨w5.heap.size, 5, none⟩ = some (.int .i64 0) := N7.a 5
    have N7l := N7.l
    go_wp2_with fail
    refine (HS1.out _ M7.bl).mono ?_
    rintro e w8 ⟨rfl, hB8⟩
    have M8 := M7.next hB8
    have N8 := N7.next hB8
    clear M7a0 M7a1 M7a2 M7a3 M7a4 M7l
    clear N7a0 N7a1 N7a2 N7a3 N7a4 N7a5 N7l
    clear hB8 M7 N7
    have M8a0 : w8.cell? ⟨w.heap.size, 0, none⟩ = some (.string os) := M8.a 0
    have M8a1 : w8.cell? ⟨w.heap.size, 1, none⟩ = some (.string arch) := M8.a 1
    have M8a2 : w8.cell? ⟨w.heap.size, 2, none⟩ = some (.bool cgo) := M8.a 2
    have M8a3 : w8.cell? ⟨w.heap.size, 3, none⟩ = some (.int .i64 lv) := M8.a 3
    have M8a4 : w8.cell? ⟨w.heap.size, 4, none⟩ = some (.slice p m cp) := M8.a 4
    have M8l := M8.l
    have N8a0 : w8.cell? ⟨w5.heap.size, 0, none⟩ = some (.string ⟨#[112]⟩) := N8.a 0
    have N8a1 : w8.cell? ⟨w5.heap.size, 1, none⟩ = some (.slice none 0 0) := N8.a 1
    have N8a2 : w8.cell? ⟨w5.heap.size, 2, none⟩ = some (.string ⟨#[]⟩) := N8.a 2
    have N8a3 : w8.cell? ⟨w5.heap.size, 3, none⟩ = some (.slice none 0 0) := N8.a 3
    have N8a4 : w8.cell? ⟨w5.heap.size, 4, none⟩ = some (.int .i64 0) := N8.a 4
    have N8a5 : w8.cell? ⟨w5.heap.size, 5, none⟩ = some (.int .i64 0) := N8.a 5
    have N8l := N8.l
    go_wp2_with fail
    refine (HP1.out _ M8.bl).mono ?_
    rintro e w9 ⟨rfl, hB9⟩
    have M9 := M8.next hB9
    have N9 := N8.next hB9
    clear M8a0 M8a1 M8a2 M8a3 M8a4 M8l
    clear N8a0 N8a1 N8a2 N8a3 N8a4 N8a5 N8l
    clear hB9 M8 N8
    have M9a0 : w9.cell? ⟨w.heap.size, 0, none⟩ = some (.string os) := M9.a 0
    have M9a1 : w9.cell? ⟨w.heap.size, 1, none⟩ = some (.string arch) := M9.a 1
    have M9a2 : w9.cell? ⟨w.heap.size, 2, none⟩ = some (.bool cgo) := M9.a 2
    have M9a3 : w9.cell? ⟨w.heap.size, 3, none⟩ = some (.int .i64 lv) := M9.a 3
    have M9a4 : w9.cell? ⟨w.heap.size, 4, none⟩ = some (.slice p m cp) := M9.a 4
    have M9l := M9.l
    have N9a0 : w9.cell? ⟨w5.heap.size, 0, none⟩ = some (.string ⟨#[112]⟩) := N9.a 0
    have N9a1 : w9.cell? ⟨w5.heap.size, 1, none⟩ = some (.slice none 0 0) := N9.a 1
    have N9a2 : w9.cell? ⟨w5.heap.size, 2, none⟩ = some (.string ⟨#[]⟩) := N9.a 2
    have N9a3 : w9.cell? ⟨w5.heap.size, 3, none⟩ = some (.slice none 0 0) := N9.a 3
    have N9a4 : w9.cell? ⟨w5.heap.size, 4, none⟩ = some (.int .i64 0) := N9.a 4
    have N9a5 : w9.cell? ⟨w5.heap.size, 5, none⟩ = some (.int .i64 0) := N9.a 5
    have N9l := N9.l
    go_wp2_with fail
    refine (HB1.out _ M9.bl).mono ?_
    rintro e w10 ⟨rfl, hB10⟩
    have M10 := M9.next hB10
    have N10 := N9.next hB10
    clear M9a0 M9a1 M9a2 M9a3 M9a4 M9l
    clear N9a0 N9a1 N9a2 N9a3 N9a4 N9a5 N9l
    clear hB10 M9 N9
    obtain ⟨tk, hbk⟩ := M10.bk
    have HL := Lib.hid (fun v1 (h1 : Below w10.heap.size w10 v1) => (h1.block _ M10.l).trans hbk)
    have HO1R := Lib.hid (fun v1 (h1 : Below w10.heap.size w10 v1) => (HO1.out v1 (M10.bl.trans (h1.mono M10.bl.size))).mono (fun e v2 hh => (⟨hh.1, h1.trans (hh.2.mono h1.size)⟩ : e = .returned (.bool true) ∧ Below w10.heap.size w10 v2)))
    have HO2R := Lib.hid (fun v1 (h1 : Below w10.heap.size w10 v1) => (HO2.out v1 (M10.bl.trans (h1.mono M10.bl.size))).mono (fun e v2 hh => (⟨hh.1, h1.trans (hh.2.mono h1.size)⟩ : e = .returned (.bool false) ∧ Below w10.heap.size w10 v2)))
    have Hb := Lib.hid M10.bl
    clear hbk M10 N10
    go_wp2_with fail
    refine wp_region_class (Below w10.heap.size w10) (by kernel_rfl) (by kernel_rfl) (Below.refl _ _).drew ?_
    refine wpQuiet_load_row rfl 24 (.tmp 4) rfl w.heap.size rfl tk #[.string os, .string arch, .bool cgo, .int .i64 lv, .slice p m cp] (0, 0) _ HL.out Tryz.underlying24 rfl (by kernel_rfl) ?_
    simp only [Act.put, List.setIfInBounds_toArray, List.set_cons_succ, List.set_cons_zero]
    repeat (go_big_quiet_step (first | (intro hh; with_reducible exact HO1R.out _ hh) | (intro hh; with_reducible exact HO2R.out _ hh)))
    refine wpQuiet_load_row rfl 24 (.tmp 4) rfl w.heap.size rfl tk #[.string os, .string arch, .bool cgo, .int .i64 lv, .slice p m cp] (0, 0) _ HL.out Tryz.underlying24 rfl (by kernel_rfl) ?_
    simp only [Act.put, List.setIfInBounds_toArray, List.set_cons_succ, List.set_cons_zero]
    repeat (go_big_quiet_step (first | (intro hh; with_reducible exact HO1R.out _ hh) | (intro hh; with_reducible exact HO2R.out _ hh)))
    refine wpQuiet_nil ?_
    intro wq hBq
    have hb7 := Hb.out.trans (hBq.mono Hb.out.size)
    clear hBq
    go_wp2_with fail
    go_ret
    exact ⟨rfl, hb7⟩
  · have HS1 := Lib.hid (HSo true hbo)
    have HP1 := Lib.hid (HPa true hba)
    have HB1 := Lib.hid (HBo true rfl)
    have HO1 := Lib.hid HOo
    have HO2 := Lib.hid HOa
    clear HSo HPa HBo HOo HOa HS HP HB HO hbo hba
    simp only [cond_true] at HS1 HP1 HB1
    go_wp2_with fail
    have M6 := M5.alloc (Obj.cells #[.string ⟨#[112]⟩, .slice none 0 0, .string ⟨#[]⟩, .slice none 0 0, .int .i64 0, .int .i64 0] 33)
    have N6 := mem1_new w5 #[.string ⟨#[112]⟩, .slice none 0 0, .string ⟨#[]⟩, .slice none 0 0, .int .i64 0, .int .i64 0] 33
    refine (HF.out _ M6.bl).mono ?_
    rintro e w7 ⟨rfl, hB7⟩
    have M7 := M6.next hB7
    have N7 := N6.next hB7
    clear M5a0 M5a1 M5a2 M5a3 M5a4 M5l
    clear hB7 M6 N6
    have M7a0 : w7.cell? ⟨w.heap.size, 0, none⟩ = some (.string os) := M7.a 0
    have M7a1 : w7.cell? ⟨w.heap.size, 1, none⟩ = some (.string arch) := M7.a 1
    have M7a2 : w7.cell? ⟨w.heap.size, 2, none⟩ = some (.bool cgo) := M7.a 2
    have M7a3 : w7.cell? ⟨w.heap.size, 3, none⟩ = some (.int .i64 lv) := M7.a 3
    have M7a4 : w7.cell? ⟨w.heap.size, 4, none⟩ = some (.slice p m cp) := M7.a 4
    have M7l := M7.l
    have N7a0 : w7.cell? ⟨w5.heap.size, 0, none⟩ = some (.string ⟨#[112]⟩) := N7.a 0
    have N7a1 : w7.cell? ⟨w5.heap.size, 1, none⟩ = some (.slice none 0 0) := N7.a 1
    have N7a2 : w7.cell? ⟨w5.heap.size, 2, none⟩ = some (.string ⟨#[]⟩) := N7.a 2
    have N7a3 : w7.cell? ⟨w5.heap.size, 3, none⟩ = some (.slice none 0 0) := N7.a 3
    have N7a4 : w7.cell? ⟨w5.heap.size, 4, none⟩ = some (.int .i64 0) := N7.a 4
    have N7a5 : w7.cell? ⟨w5.heap.size, 5, none⟩ = some (.int .i64 0) := N7.a 5
    have N7l := N7.l
    go_wp2_with fail
    refine (HS1.out _ M7.bl).mono ?_
    rintro e w8 ⟨rfl, hB8⟩
    have M8 := M7.next hB8
    have N8 := N7.next hB8
    clear M7a0 M7a1 M7a2 M7a3 M7a4 M7l
    clear N7a0 N7a1 N7a2 N7a3 N7a4 N7a5 N7l
    clear hB8 M7 N7
    have M8a0 : w8.cell? ⟨w.heap.size, 0, none⟩ = some (.string os) := M8.a 0
    have M8a1 : w8.cell? ⟨w.heap.size, 1, none⟩ = some (.string arch) := M8.a 1
    have M8a2 : w8.cell? ⟨w.heap.size, 2, none⟩ = some (.bool cgo) := M8.a 2
    have M8a3 : w8.cell? ⟨w.heap.size, 3, none⟩ = some (.int .i64 lv) := M8.a 3
    have M8a4 : w8.cell? ⟨w.heap.size, 4, none⟩ = some (.slice p m cp) := M8.a 4
    have M8l := M8.l
    have N8a0 : w8.cell? ⟨w5.heap.size, 0, none⟩ = some (.string ⟨#[112]⟩) := N8.a 0
    have N8a1 : w8.cell? ⟨w5.heap.size, 1, none⟩ = some (.slice none 0 0) := N8.a 1
    have N8a2 : w8.cell? ⟨w5.heap.size, 2, none⟩ = some (.string ⟨#[]⟩) := N8.a 2
    have N8a3 : w8.cell? ⟨w5.heap.size, 3, none⟩ = some (.slice none 0 0) := N8.a 3
    have N8a4 : w8.cell? ⟨w5.heap.size, 4, none⟩ = some (.int .i64 0) := N8.a 4
    have N8a5 : w8.cell? ⟨w5.heap.size, 5, none⟩ = some (.int .i64 0) := N8.a 5
    have N8l := N8.l
    go_wp2_with fail
    refine (HP1.out _ M8.bl).mono ?_
    rintro e w9 ⟨rfl, hB9⟩
    have M9 := M8.next hB9
    have N9 := N8.next hB9
    clear M8a0 M8a1 M8a2 M8a3 M8a4 M8l
    clear N8a0 N8a1 N8a2 N8a3 N8a4 N8a5 N8l
    clear hB9 M8 N8
    have M9a0 : w9.cell? ⟨w.heap.size, 0, none⟩ = some (.string os) := M9.a 0
    have M9a1 : w9.cell? ⟨w.heap.size, 1, none⟩ = some (.string arch) := M9.a 1
    have M9a2 : w9.cell? ⟨w.heap.size, 2, none⟩ = some (.bool cgo) := M9.a 2
    have M9a3 : w9.cell? ⟨w.heap.size, 3, none⟩ = some (.int .i64 lv) := M9.a 3
    have M9a4 : w9.cell? ⟨w.heap.size, 4, none⟩ = some (.slice p m cp) := M9.a 4
    have M9l := M9.l
    have N9a0 : w9.cell? ⟨w5.heap.size, 0, none⟩ = some (.string ⟨#[112]⟩) := N9.a 0
    have N9a1 : w9.cell? ⟨w5.heap.size, 1, none⟩ = some (.slice none 0 0) := N9.a 1
    have N9a2 : w9.cell? ⟨w5.heap.size, 2, none⟩ = some (.string ⟨#[]⟩) := N9.a 2
    have N9a3 : w9.cell? ⟨w5.heap.size, 3, none⟩ = some (.slice none 0 0) := N9.a 3
    have N9a4 : w9.cell? ⟨w5.heap.size, 4, none⟩ = some (.int .i64 0) := N9.a 4
    have N9a5 : w9.cell? ⟨w5.heap.size, 5, none⟩ = some (.int .i64 0) := N9.a 5
    have N9l := N9.l
    go_wp2_with fail
    refine (HB1.out _ M9.bl).mono ?_
    rintro e w10 ⟨rfl, hB10⟩
    have M10 := M9.next hB10
    have N10 := N9.next hB10
    clear M9a0 M9a1 M9a2 M9a3 M9a4 M9l
    clear N9a0 N9a1 N9a2 N9a3 N9a4 N9a5 N9l
    clear hB10 M9 N9
    obtain ⟨tk, hbk⟩ := M10.bk
    have HL := Lib.hid (fun v1 (h1 : Below w10.heap.size w10 v1) => (h1.block _ M10.l).trans hbk)
    have HO1R := Lib.hid (fun v1 (h1 : Below w10.heap.size w10 v1) => (HO1.out v1 (M10.bl.trans (h1.mono M10.bl.size))).mono (fun e v2 hh => (⟨hh.1, h1.trans (hh.2.mono h1.size)⟩ : e = .returned (.bool true) ∧ Below w10.heap.size w10 v2)))
    have HO2R := Lib.hid (fun v1 (h1 : Below w10.heap.size w10 v1) => (HO2.out v1 (M10.bl.trans (h1.mono M10.bl.size))).mono (fun e v2 hh => (⟨hh.1, h1.trans (hh.2.mono h1.size)⟩ : e = .returned (.bool true) ∧ Below w10.heap.size w10 v2)))
    have Hb := Lib.hid M10.bl
    clear hbk M10 N10
    go_wp2_with fail
    refine wp_region_class (Below w10.heap.size w10) (by kernel_rfl) (by kernel_rfl) (Below.refl _ _).drew ?_
    refine wpQuiet_load_row rfl 24 (.tmp 4) rfl w.heap.size rfl tk #[.string os, .string arch, .bool cgo, .int .i64 lv, .slice p m cp] (0, 0) _ HL.out Tryz.underlying24 rfl (by kernel_rfl) ?_
    simp only [Act.put, List.setIfInBounds_toArray, List.set_cons_succ, List.set_cons_zero]
    repeat (go_big_quiet_step (first | (intro hh; with_reducible exact HO1R.out _ hh) | (intro hh; with_reducible exact HO2R.out _ hh)))
    refine wpQuiet_load_row rfl 24 (.tmp 4) rfl w.heap.size rfl tk #[.string os, .string arch, .bool cgo, .int .i64 lv, .slice p m cp] (0, 0) _ HL.out Tryz.underlying24 rfl (by kernel_rfl) ?_
    simp only [Act.put, List.setIfInBounds_toArray, List.set_cons_succ, List.set_cons_zero]
    repeat (go_big_quiet_step (first | (intro hh; with_reducible exact HO1R.out _ hh) | (intro hh; with_reducible exact HO2R.out _ hh)))
    refine wpQuiet_nil ?_
    intro wq hBq
    have hb7 := Hb.out.trans (hBq.mono Hb.out.size)
    clear hBq
    go_wp2_with fail
    go_ret
    exact ⟨rfl, hb7⟩
set_option maxRecDepth 100000 in
set_option maxHeartbeats 4000000 in
theorem nam_true (os arch : ByteArray) (cgo : Bool) (lv i k : Int) (p : Option Addr) (m cp : Nat) (w : World)
    (HA : Hid (∀ w1, Below w.heap.size w w1 → Calls Tryz.prog 6 #[] w1 fun e w' => e = .returned (.bool true) ∧ Below w1.heap.size w1 w'))
    (HG : Hid (∀ w1, Below w.heap.size w w1 → Calls Tryz.prog 7 #[.agg #[.string os, .string arch, .bool cgo, .int .i64 lv, .slice p m cp]] w1 fun e w' => e = .returned (.bool false) ∧ Below w1.heap.size w1 w'))
    (onS : ByteArray → Bool)
    (HF : Hid (∀ w1, Below w.heap.size w w1 → Calls Tryz.prog 10 #[.agg #[.string os, .string arch, .bool cgo, .int .i64 lv, .slice p m cp], .string (⟨#[120]⟩ ++ ⟨#[95, 116, 101, 115, 116, 46, 103, 111]⟩), .agg #[.string ⟨#[112]⟩, .slice none 0 0, .string ⟨#[]⟩, .slice none 0 0, .int .i64 0, .int .i64 0]] w1 fun e w' => e = .returned (.tuple #[.int .i64 (2), .int .i64 0]) ∧ Below w1.heap.size w1 w'))
    (HS : Hid (∀ o, o ∈ sysL → ∀ b, onS o = b → ∀ w1, Below w.heap.size w w1 → Calls Tryz.prog 10 #[.agg #[.string os, .string arch, .bool cgo, .int .i64 lv, .slice p m cp], .string (⟨#[120, 95]⟩ ++ o ++ ⟨#[95, 116, 101, 115, 116, 46, 103, 111]⟩), .agg #[.string ⟨#[112]⟩, .slice none 0 0, .string ⟨#[]⟩, .slice none 0 0, .int .i64 0, .int .i64 0]] w1 fun e w' => e = .returned (.tuple #[.int .i64 (cond b 2 0), .int .i64 0]) ∧ Below w1.heap.size w1 w'))
    (HP : Hid (∀ a, a ∈ procL → ∀ b, onS a = b → ∀ w1, Below w.heap.size w w1 → Calls Tryz.prog 10 #[.agg #[.string os, .string arch, .bool cgo, .int .i64 lv, .slice p m cp], .string (⟨#[120, 95]⟩ ++ a ++ ⟨#[95, 116, 101, 115, 116, 46, 103, 111]⟩), .agg #[.string ⟨#[112]⟩, .slice none 0 0, .string ⟨#[]⟩, .slice none 0 0, .int .i64 0, .int .i64 0]] w1 fun e w' => e = .returned (.tuple #[.int .i64 (cond b 2 0), .int .i64 0]) ∧ Below w1.heap.size w1 w'))
    (HB : Hid (∀ o, o ∈ sysL → ∀ a, a ∈ procL → ∀ b, (onS o && onS a) = b → ∀ w1, Below w.heap.size w w1 → Calls Tryz.prog 10 #[.agg #[.string os, .string arch, .bool cgo, .int .i64 lv, .slice p m cp], .string (⟨#[120, 95]⟩ ++ o ++ ⟨#[95]⟩ ++ a ++ ⟨#[95, 116, 101, 115, 116, 46, 103, 111]⟩), .agg #[.string ⟨#[112]⟩, .slice none 0 0, .string ⟨#[]⟩, .slice none 0 0, .int .i64 0, .int .i64 0]] w1 fun e w' => e = .returned (.tuple #[.int .i64 (cond b 2 0), .int .i64 0]) ∧ Below w1.heap.size w1 w'))
    (HO : Hid (∀ t, t.size ≤ 9 → ∀ w1, Below w.heap.size w w1 → Calls Tryz.prog 8 #[.agg #[.string os, .string arch, .bool cgo, .int .i64 lv, .slice p m cp], .string t] w1 fun e w' => e = .returned (.bool (onS t)) ∧ Below w1.heap.size w1 w')) :
    Calls Tryz.prog 5 #[.agg #[.string os, .string arch, .bool cgo, .int .i64 lv, .slice p m cp], .int .i64 i, .int .i64 k, .bool true] w (LawEnd w) := by
  have M0 := mem1_new w #[.string os, .string arch, .bool cgo, .int .i64 lv, .slice p m cp] 24
  go_enter Tryz.func5, Tryz.ntmps5
  go_wp2_with fail
  refine (HA.out _ M0.bl).mono ?_
  rintro e w1 ⟨rfl, hB1⟩
  have M1 := M0.next hB1
  clear hB1 M0
  have M1a0 : w1.cell? ⟨w.heap.size, 0, none⟩ = some (.string os) := M1.a 0
  have M1a1 : w1.cell? ⟨w.heap.size, 1, none⟩ = some (.string arch) := M1.a 1
  have M1a2 : w1.cell? ⟨w.heap.size, 2, none⟩ = some (.bool cgo) := M1.a 2
  have M1a3 : w1.cell? ⟨w.heap.size, 3, none⟩ = some (.int .i64 lv) := M1.a 3
  have M1a4 : w1.cell? ⟨w.heap.size, 4, none⟩ = some (.slice p m cp) := M1.a 4
  have M1l := M1.l
  go_wp2_with fail
  refine (HG.out _ M1.bl).mono ?_
  rintro e w2 ⟨rfl, hB2⟩
  have M2 := M1.next hB2
  clear M1a0 M1a1 M1a2 M1a3 M1a4 M1l
  clear hB2 M1
  have M2a0 : w2.cell? ⟨w.heap.size, 0, none⟩ = some (.string os) := M2.a 0
  have M2a1 : w2.cell? ⟨w.heap.size, 1, none⟩ = some (.string arch) := M2.a 1
  have M2a2 : w2.cell? ⟨w.heap.size, 2, none⟩ = some (.bool cgo) := M2.a 2
  have M2a3 : w2.cell? ⟨w.heap.size, 3, none⟩ = some (.int .i64 lv) := M2.a 3
  have M2a4 : w2.cell? ⟨w.heap.size, 4, none⟩ = some (.slice p m cp) := M2.a 4
  have M2l := M2.l
  go_wp2_with fail
  refine (systems_is _).mono ?_
  rintro e w3 ⟨b, off, cap, rfl, hb, hcap, hmax, hcell, hB3⟩
  have M3 := M2.next hB3
  clear M2a0 M2a1 M2a2 M2a3 M2a4 M2l
  have Hcell := Lib.hid hcell
  clear hB3 hcell M2
  have M3a0 : w3.cell? ⟨w.heap.size, 0, none⟩ = some (.string os) := M3.a 0
  have M3a1 : w3.cell? ⟨w.heap.size, 1, none⟩ = some (.string arch) := M3.a 1
  have M3a2 : w3.cell? ⟨w.heap.size, 2, none⟩ = some (.bool cgo) := M3.a 2
  have M3a3 : w3.cell? ⟨w.heap.size, 3, none⟩ = some (.int .i64 lv) := M3.a 3
  have M3a4 : w3.cell? ⟨w.heap.size, 4, none⟩ = some (.slice p m cp) := M3.a 4
  have M3l := M3.l
  go_wp2_with fail
  refine (processors_is _).mono ?_
  rintro e w4 ⟨b2, off2, cap2, rfl, hb2, hcap2, hmax2, hcell2, hB4⟩
  have M4 := M3.next hB4
  have Hc1 := Lib.hid (fun i hi => (hB4.cell (p := ⟨b, off + i, none⟩) hb).trans (Hcell.out i hi))
  have Hc2 := Lib.hid hcell2
  clear M3a0 M3a1 M3a2 M3a3 M3a4 M3l
  clear hB4 hcell2 Hcell M3
  obtain ⟨I, hI⟩ := wrap_nat i
  obtain ⟨J, hJ⟩ := wrap_nat k
  have hw15 : IntKind.u64.wrap 15 = 15 := by decide
  have hw14 : IntKind.u64.wrap 14 = 14 := by decide
  obtain ⟨x, hx, hx15⟩ : ∃ x : Nat, (I : Int).tmod 15 = (x : Int) ∧ x < 15 := ⟨I % 15, rfl, by omega⟩
  obtain ⟨y, hy, hy14⟩ : ∃ y : Nat, (J : Int).tmod 14 = (y : Int) ∧ y < 14 := ⟨J % 14, rfl, by omega⟩
  have hwx : IntKind.i64.wrap (x : Int) = (x : Int) := wrap_small x (by omega)
  have hwy : IntKind.i64.wrap (y : Int) = (y : Int) := wrap_small y (by omega)
  have hcx := Hc1.out x hx15
  have hcy := Hc2.out y hy14
  obtain ⟨o, ho, hoe⟩ : ∃ o, o ∈ sysL ∧ sysL.getD x ByteArray.empty = o := ⟨_, getD_memT sysL x hx15, rfl⟩
  obtain ⟨a, ha, hae⟩ : ∃ a, a ∈ procL ∧ procL.getD y ByteArray.empty = a := ⟨_, getD_memT procL y hy14, rfl⟩
  rw [hoe] at hcx
  rw [hae] at hcy
  have hoz := known_size o (.inl ho)
  have haz := known_size a (.inr ha)
  have Ho := Lib.hid ho
  have Ha := Lib.hid ha
  clear hoe hae ho ha Hc1 Hc2
  go_wp2_with fail
  go_quiet (fail)
  have M5 := M4.next (below_drewN (Below.refl w4.heap.size w4) nq)
  clear M4
  generalize w4.drewN nq = w5 at *
  clear hcx hcy hI hJ hx hy hwx hwy hw15 hw14 hb hb2
  have M5a0 : w5.cell? ⟨w.heap.size, 0, none⟩ = some (.string os) := M5.a 0
  have M5a1 : w5.cell? ⟨w.heap.size, 1, none⟩ = some (.string arch) := M5.a 1
  have M5a2 : w5.cell? ⟨w.heap.size, 2, none⟩ = some (.bool cgo) := M5.a 2
  have M5a3 : w5.cell? ⟨w.heap.size, 3, none⟩ = some (.int .i64 lv) := M5.a 3
  have M5a4 : w5.cell? ⟨w.heap.size, 4, none⟩ = some (.slice p m cp) := M5.a 4
  have M5l := M5.l
  have HSo := HS.out o Ho.out
  have HPa := HP.out a Ha.out
  have HBo := HB.out o Ho.out a Ha.out
  have HOo := HO.out o hoz
  have HOa := HO.out a haz
  cases hbo : onS o <;> cases hba : onS a <;> rw [hbo] at HOo <;> rw [hba] at HOa <;> rw [hbo, hba] at HBo
  · have HS1 := Lib.hid (HSo false hbo)
    have HP1 := Lib.hid (HPa false hba)
    have HB1 := Lib.hid (HBo false rfl)
    have HO1 := Lib.hid HOo
    have HO2 := Lib.hid HOa
    clear HSo HPa HBo HOo HOa HS HP HB HO hbo hba
    simp only [cond_false] at HS1 HP1 HB1
    go_wp2_with fail
    have M6 := M5.alloc (Obj.cells #[.string ⟨#[112]⟩, .slice none 0 0, .string ⟨#[]⟩, .slice none 0 0, .int .i64 0, .int .i64 0] 33)
    have N6 := mem1_new w5 #[.string ⟨#[112]⟩, .slice none 0 0, .string ⟨#[]⟩, .slice none 0 0, .int .i64 0, .int .i64 0] 33
    refine (HF.out _ M6.bl).mono ?_
    rintro e w7 ⟨rfl, hB7⟩
    have M7 := M6.next hB7
    have N7 := N6.next hB7
    clear M5a0 M5a1 M5a2 M5a3 M5a4 M5l
    clear hB7 M6 N6
    have M7a0 : w7.cell? ⟨w.heap.size, 0, none⟩ = some (.string os) := M7.a 0
    have M7a1 : w7.cell? ⟨w.heap.size, 1, none⟩ = some (.string arch) := M7.a 1
    have M7a2 : w7.cell? ⟨w.heap.size, 2, none⟩ = some (.bool cgo) := M7.a 2
    have M7a3 : w7.cell? ⟨w.heap.size, 3, none⟩ = some (.int .i64 lv) := M7.a 3
    have M7a4 : w7.cell? ⟨w.heap.size, 4, none⟩ = some (.slice p m cp) := M7.a 4
    have M7l := M7.l
    have N7a0 : w7.cell? ⟨w5.heap.size, 0, none⟩ = some (.string ⟨#[112]⟩) := N7.a 0
    have N7a1 : w7.cell? ⟨w5.heap.size, 1, none⟩ = some (.slice none 0 0) := N7.a 1
    have N7a2 : w7.cell? ⟨w5.heap.size, 2, none⟩ = some (.string ⟨#[]⟩) := N7.a 2
    have N7a3 : w7.cell? ⟨w5.heap.size, 3, none⟩ = some (.slice none 0 0) := N7.a 3
    have N7a4 : w7.cell? ⟨w5.heap.size, 4, none⟩ = some (.int .i64 0) := N7.a 4
    have N7a5 : w7.cell? ⟨w5.heap.size, 5, none⟩ = some (.int .i64 0) := N7.a 5
    have N7l := N7.l
    go_wp2_with fail
    refine (HS1.out _ M7.bl).mono ?_
    rintro e w8 ⟨rfl, hB8⟩
    have M8 := M7.next hB8
    have N8 := N7.next hB8
    clear M7a0 M7a1 M7a2 M7a3 M7a4 M7l
    clear N7a0 N7a1 N7a2 N7a3 N7a4 N7a5 N7l
    clear hB8 M7 N7
    have M8a0 : w8.cell? ⟨w.heap.size, 0, none⟩ = some (.string os) := M8.a 0
    have M8a1 : w8.cell? ⟨w.heap.size, 1, none⟩ = some (.string arch) := M8.a 1
    have M8a2 : w8.cell? ⟨w.heap.size, 2, none⟩ = some (.bool cgo) := M8.a 2
    have M8a3 : w8.cell? ⟨w.heap.size, 3, none⟩ = some (.int .i64 lv) := M8.a 3
    have M8a4 : w8.cell? ⟨w.heap.size, 4, none⟩ = some (.slice p m cp) := M8.a 4
    have M8l := M8.l
    have N8a0 : w8.cell? ⟨w5.heap.size, 0, none⟩ = some (.string ⟨#[112]⟩) := N8.a 0
    have N8a1 : w8.cell? ⟨w5.heap.size, 1, none⟩ = some (.slice none 0 0) := N8.a 1
    have N8a2 : w8.cell? ⟨w5.heap.size, 2, none⟩ = some (.string ⟨#[]⟩) := N8.a 2
    have N8a3 : w8.cell? ⟨w5.heap.size, 3, none⟩ = some (.slice none 0 0) := N8.a 3
    have N8a4 : w8.cell? ⟨w5.heap.size, 4, none⟩ = some (.int .i64 0) := N8.a 4
    have N8a5 : w8.cell? ⟨w5.heap.size, 5, none⟩ = some (.int .i64 0) := N8.a 5
    have N8l := N8.l
    go_wp2_with fail
    refine (HP1.out _ M8.bl).mono ?_
    rintro e w9 ⟨rfl, hB9⟩
    have M9 := M8.next hB9
    have N9 := N8.next hB9
    clear M8a0 M8a1 M8a2 M8a3 M8a4 M8l
    clear N8a0 N8a1 N8a2 N8a3 N8a4 N8a5 N8l
    clear hB9 M8 N8
    have M9a0 : w9.cell? ⟨w.heap.size, 0, none⟩ = some (.string os) := M9.a 0
    have M9a1 : w9.cell? ⟨w.heap.size, 1, none⟩ = some (.string arch) := M9.a 1
    have M9a2 : w9.cell? ⟨w.heap.size, 2, none⟩ = some (.bool cgo) := M9.a 2
    have M9a3 : w9.cell? ⟨w.heap.size, 3, none⟩ = some (.int .i64 lv) := M9.a 3
    have M9a4 : w9.cell? ⟨w.heap.size, 4, none⟩ = some (.slice p m cp) := M9.a 4
    have M9l := M9.l
    have N9a0 : w9.cell? ⟨w5.heap.size, 0, none⟩ = some (.string ⟨#[112]⟩) := N9.a 0
    have N9a1 : w9.cell? ⟨w5.heap.size, 1, none⟩ = some (.slice none 0 0) := N9.a 1
    have N9a2 : w9.cell? ⟨w5.heap.size, 2, none⟩ = some (.string ⟨#[]⟩) := N9.a 2
    have N9a3 : w9.cell? ⟨w5.heap.size, 3, none⟩ = some (.slice none 0 0) := N9.a 3
    have N9a4 : w9.cell? ⟨w5.heap.size, 4, none⟩ = some (.int .i64 0) := N9.a 4
    have N9a5 : w9.cell? ⟨w5.heap.size, 5, none⟩ = some (.int .i64 0) := N9.a 5
    have N9l := N9.l
    go_wp2_with fail
    refine (HB1.out _ M9.bl).mono ?_
    rintro e w10 ⟨rfl, hB10⟩
    have M10 := M9.next hB10
    have N10 := N9.next hB10
    clear M9a0 M9a1 M9a2 M9a3 M9a4 M9l
    clear N9a0 N9a1 N9a2 N9a3 N9a4 N9a5 N9l
    clear hB10 M9 N9
    obtain ⟨tk, hbk⟩ := M10.bk
    have HL := Lib.hid (fun v1 (h1 : Below w10.heap.size w10 v1) => (h1.block _ M10.l).trans hbk)
    have HO1R := Lib.hid (fun v1 (h1 : Below w10.heap.size w10 v1) => (HO1.out v1 (M10.bl.trans (h1.mono M10.bl.size))).mono (fun e v2 hh => (⟨hh.1, h1.trans (hh.2.mono h1.size)⟩ : e = .returned (.bool false) ∧ Below w10.heap.size w10 v2)))
    have HO2R := Lib.hid (fun v1 (h1 : Below w10.heap.size w10 v1) => (HO2.out v1 (M10.bl.trans (h1.mono M10.bl.size))).mono (fun e v2 hh => (⟨hh.1, h1.trans (hh.2.mono h1.size)⟩ : e = .returned (.bool false) ∧ Below w10.heap.size w10 v2)))
    have Hb := Lib.hid M10.bl
    clear hbk M10 N10
    go_wp2_with fail
    refine wp_region_class (Below w10.heap.size w10) (by kernel_rfl) (by kernel_rfl) (Below.refl _ _).drew ?_
    refine wpQuiet_load_row rfl 24 (.tmp 4) rfl w.heap.size rfl tk #[.string os, .string arch, .bool cgo, .int .i64 lv, .slice p m cp] (0, 0) _ HL.out Tryz.underlying24 rfl (by kernel_rfl) ?_
    simp only [Act.put, List.setIfInBounds_toArray, List.set_cons_succ, List.set_cons_zero]
    repeat (go_big_quiet_step (first | (intro hh; with_reducible exact HO1R.out _ hh) | (intro hh; with_reducible exact HO2R.out _ hh)))
    refine wpQuiet_load_row rfl 24 (.tmp 4) rfl w.heap.size rfl tk #[.string os, .string arch, .bool cgo, .int .i64 lv, .slice p m cp] (0, 0) _ HL.out Tryz.underlying24 rfl (by kernel_rfl) ?_
    simp only [Act.put, List.setIfInBounds_toArray, List.set_cons_succ, List.set_cons_zero]
    repeat (go_big_quiet_step (first | (intro hh; with_reducible exact HO1R.out _ hh) | (intro hh; with_reducible exact HO2R.out _ hh)))
    refine wpQuiet_nil ?_
    intro wq hBq
    have hb7 := Hb.out.trans (hBq.mono Hb.out.size)
    clear hBq
    go_wp2_with fail
    go_ret
    exact ⟨rfl, hb7⟩
  · have HS1 := Lib.hid (HSo false hbo)
    have HP1 := Lib.hid (HPa true hba)
    have HB1 := Lib.hid (HBo false rfl)
    have HO1 := Lib.hid HOo
    have HO2 := Lib.hid HOa
    clear HSo HPa HBo HOo HOa HS HP HB HO hbo hba
    simp only [cond_true, cond_false] at HS1 HP1 HB1
    go_wp2_with fail
    have M6 := M5.alloc (Obj.cells #[.string ⟨#[112]⟩, .slice none 0 0, .string ⟨#[]⟩, .slice none 0 0, .int .i64 0, .int .i64 0] 33)
    have N6 := mem1_new w5 #[.string ⟨#[112]⟩, .slice none 0 0, .string ⟨#[]⟩, .slice none 0 0, .int .i64 0, .int .i64 0] 33
    refine (HF.out _ M6.bl).mono ?_
    rintro e w7 ⟨rfl, hB7⟩
    have M7 := M6.next hB7
    have N7 := N6.next hB7
    clear M5a0 M5a1 M5a2 M5a3 M5a4 M5l
    clear hB7 M6 N6
    have M7a0 : w7.cell? ⟨w.heap.size, 0, none⟩ = some (.string os) := M7.a 0
    have M7a1 : w7.cell? ⟨w.heap.size, 1, none⟩ = some (.string arch) := M7.a 1
    have M7a2 : w7.cell? ⟨w.heap.size, 2, none⟩ = some (.bool cgo) := M7.a 2
    have M7a3 : w7.cell? ⟨w.heap.size, 3, none⟩ = some (.int .i64 lv) := M7.a 3
    have M7a4 : w7.cell? ⟨w.heap.size, 4, none⟩ = some (.slice p m cp) := M7.a 4
    have M7l := M7.l
    have N7a0 : w7.cell? ⟨w5.heap.size, 0, none⟩ = some (.string ⟨#[112]⟩) := N7.a 0
    have N7a1 : w7.cell? ⟨w5.heap.size, 1, none⟩ = some (.slice none 0 0) := N7.a 1
    have N7a2 : w7.cell? ⟨w5.heap.size, 2, none⟩ = some (.string ⟨#[]⟩) := N7.a 2
    have N7a3 : w7.cell? ⟨w5.heap.size, 3, none⟩ = some (.slice none 0 0) := N7.a 3
    have N7a4 : w7.cell? ⟨w5.heap.size, 4, none⟩ = some (.int .i64 0) := N7.a 4
    have N7a5 : w7.cell? ⟨w5.heap.size, 5, none⟩ = some (.int .i64 0) := N7.a 5
    have N7l := N7.l
    go_wp2_with fail
    refine (HS1.out _ M7.bl).mono ?_
    rintro e w8 ⟨rfl, hB8⟩
    have M8 := M7.next hB8
    have N8 := N7.next hB8
    clear M7a0 M7a1 M7a2 M7a3 M7a4 M7l
    clear N7a0 N7a1 N7a2 N7a3 N7a4 N7a5 N7l
    clear hB8 M7 N7
    have M8a0 : w8.cell? ⟨w.heap.size, 0, none⟩ = some (.string os) := M8.a 0
    have M8a1 : w8.cell? ⟨w.heap.size, 1, none⟩ = some (.string arch) := M8.a 1
    have M8a2 : w8.cell? ⟨w.heap.size, 2, none⟩ = some (.bool cgo) := M8.a 2
    have M8a3 : w8.cell? ⟨w.heap.size, 3, none⟩ = some (.int .i64 lv) := M8.a 3
    have M8a4 : w8.cell? ⟨w.heap.size, 4, none⟩ = some (.slice p m cp) := M8.a 4
    have M8l := M8.l
    have N8a0 : w8.cell? ⟨w5.heap.size, 0, none⟩ = some (.string ⟨#[112]⟩) := N8.a 0
    have N8a1 : w8.cell? ⟨w5.heap.size, 1, none⟩ = some (.slice none 0 0) := N8.a 1
    have N8a2 : w8.cell? ⟨w5.heap.size, 2, none⟩ = some (.string ⟨#[]⟩) := N8.a 2
    have N8a3 : w8.cell? ⟨w5.heap.size, 3, none⟩ = some (.slice none 0 0) := N8.a 3
    have N8a4 : w8.cell? ⟨w5.heap.size, 4, none⟩ = some (.int .i64 0) := N8.a 4
    have N8a5 : w8.cell? ⟨w5.heap.size, 5, none⟩ = some (.int .i64 0) := N8.a 5
    have N8l := N8.l
    go_wp2_with fail
    refine (HP1.out _ M8.bl).mono ?_
    rintro e w9 ⟨rfl, hB9⟩
    have M9 := M8.next hB9
    have N9 := N8.next hB9
    clear M8a0 M8a1 M8a2 M8a3 M8a4 M8l
    clear N8a0 N8a1 N8a2 N8a3 N8a4 N8a5 N8l
    clear hB9 M8 N8
    have M9a0 : w9.cell? ⟨w.heap.size, 0, none⟩ = some (.string os) := M9.a 0
    have M9a1 : w9.cell? ⟨w.heap.size, 1, none⟩ = some (.string arch) := M9.a 1
    have M9a2 : w9.cell? ⟨w.heap.size, 2, none⟩ = some (.bool cgo) := M9.a 2
    have M9a3 : w9.cell? ⟨w.heap.size, 3, none⟩ = some (.int .i64 lv) := M9.a 3
    have M9a4 : w9.cell? ⟨w.heap.size, 4, none⟩ = some (.slice p m cp) := M9.a 4
    have M9l := M9.l
    have N9a0 : w9.cell? ⟨w5.heap.size, 0, none⟩ = some (.string ⟨#[112]⟩) := N9.a 0
    have N9a1 : w9.cell? ⟨w5.heap.size, 1, none⟩ = some (.slice none 0 0) := N9.a 1
    have N9a2 : w9.cell? ⟨w5.heap.size, 2, none⟩ = some (.string ⟨#[]⟩) := N9.a 2
    have N9a3 : w9.cell? ⟨w5.heap.size, 3, none⟩ = some (.slice none 0 0) := N9.a 3
    have N9a4 : w9.cell? ⟨w5.heap.size, 4, none⟩ = some (.int .i64 0) := N9.a 4
    have N9a5 : w9.cell? ⟨w5.heap.size, 5, none⟩ = some (.int .i64 0) := N9.a 5
    have N9l := N9.l
    go_wp2_with fail
    refine (HB1.out _ M9.bl).mono ?_
    rintro e w10 ⟨rfl, hB10⟩
    have M10 := M9.next hB10
    have N10 := N9.next hB10
    clear M9a0 M9a1 M9a2 M9a3 M9a4 M9l
    clear N9a0 N9a1 N9a2 N9a3 N9a4 N9a5 N9l
    clear hB10 M9 N9
    obtain ⟨tk, hbk⟩ := M10.bk
    have HL := Lib.hid (fun v1 (h1 : Below w10.heap.size w10 v1) => (h1.block _ M10.l).trans hbk)
    have HO1R := Lib.hid (fun v1 (h1 : Below w10.heap.size w10 v1) => (HO1.out v1 (M10.bl.trans (h1.mono M10.bl.size))).mono (fun e v2 hh => (⟨hh.1, h1.trans (hh.2.mono h1.size)⟩ : e = .returned (.bool false) ∧ Below w10.heap.size w10 v2)))
    have HO2R := Lib.hid (fun v1 (h1 : Below w10.heap.size w10 v1) => (HO2.out v1 (M10.bl.trans (h1.mono M10.bl.size))).mono (fun e v2 hh => (⟨hh.1, h1.trans (hh.2.mono h1.size)⟩ : e = .returned (.bool true) ∧ Below w10.heap.size w10 v2)))
    have Hb := Lib.hid M10.bl
    clear hbk M10 N10
    go_wp2_with fail
    refine wp_region_class (Below w10.heap.size w10) (by kernel_rfl) (by kernel_rfl) (Below.refl _ _).drew ?_
    refine wpQuiet_load_row rfl 24 (.tmp 4) rfl w.heap.size rfl tk #[.string os, .string arch, .bool cgo, .int .i64 lv, .slice p m cp] (0, 0) _ HL.out Tryz.underlying24 rfl (by kernel_rfl) ?_
    simp only [Act.put, List.setIfInBounds_toArray, List.set_cons_succ, List.set_cons_zero]
    repeat (go_big_quiet_step (first | (intro hh; with_reducible exact HO1R.out _ hh) | (intro hh; with_reducible exact HO2R.out _ hh)))
    refine wpQuiet_load_row rfl 24 (.tmp 4) rfl w.heap.size rfl tk #[.string os, .string arch, .bool cgo, .int .i64 lv, .slice p m cp] (0, 0) _ HL.out Tryz.underlying24 rfl (by kernel_rfl) ?_
    simp only [Act.put, List.setIfInBounds_toArray, List.set_cons_succ, List.set_cons_zero]
    repeat (go_big_quiet_step (first | (intro hh; with_reducible exact HO1R.out _ hh) | (intro hh; with_reducible exact HO2R.out _ hh)))
    refine wpQuiet_nil ?_
    intro wq hBq
    have hb7 := Hb.out.trans (hBq.mono Hb.out.size)
    clear hBq
    go_wp2_with fail
    go_ret
    exact ⟨rfl, hb7⟩
  · have HS1 := Lib.hid (HSo true hbo)
    have HP1 := Lib.hid (HPa false hba)
    have HB1 := Lib.hid (HBo false rfl)
    have HO1 := Lib.hid HOo
    have HO2 := Lib.hid HOa
    clear HSo HPa HBo HOo HOa HS HP HB HO hbo hba
    simp only [cond_true, cond_false] at HS1 HP1 HB1
    go_wp2_with fail
    have M6 := M5.alloc (Obj.cells #[.string ⟨#[112]⟩, .slice none 0 0, .string ⟨#[]⟩, .slice none 0 0, .int .i64 0, .int .i64 0] 33)
    have N6 := mem1_new w5 #[.string ⟨#[112]⟩, .slice none 0 0, .string ⟨#[]⟩, .slice none 0 0, .int .i64 0, .int .i64 0] 33
    refine (HF.out _ M6.bl).mono ?_
    rintro e w7 ⟨rfl, hB7⟩
    have M7 := M6.next hB7
    have N7 := N6.next hB7
    clear M5a0 M5a1 M5a2 M5a3 M5a4 M5l
    clear hB7 M6 N6
    have M7a0 : w7.cell? ⟨w.heap.size, 0, none⟩ = some (.string os) := M7.a 0
    have M7a1 : w7.cell? ⟨w.heap.size, 1, none⟩ = some (.string arch) := M7.a 1
    have M7a2 : w7.cell? ⟨w.heap.size, 2, none⟩ = some (.bool cgo) := M7.a 2
    have M7a3 : w7.cell? ⟨w.heap.size, 3, none⟩ = some (.int .i64 lv) := M7.a 3
    have M7a4 : w7.cell? ⟨w.heap.size, 4, none⟩ = some (.slice p m cp) := M7.a 4
    have M7l := M7.l
    have N7a0 : w7.cell? ⟨w5.heap.size, 0, none⟩ = some (.string ⟨#[112]⟩) := N7.a 0
    have N7a1 : w7.cell? ⟨w5.heap.size, 1, none⟩ = some (.slice none 0 0) := N7.a 1
    have N7a2 : w7.cell? ⟨w5.heap.size, 2, none⟩ = some (.string ⟨#[]⟩) := N7.a 2
    have N7a3 : w7.cell? ⟨w5.heap.size, 3, none⟩ = some (.slice none 0 0) := N7.a 3
    have N7a4 : w7.cell? ⟨w5.heap.size, 4, none⟩ = some (.int .i64 0) := N7.a 4
    have N7a5 : w7.cell? ⟨w5.heap.size, 5, none⟩ = some (.int .i64 0) := N7.a 5
    have N7l := N7.l
    go_wp2_with fail
    refine (HS1.out _ M7.bl).mono ?_
    rintro e w8 ⟨rfl, hB8⟩
    have M8 := M7.next hB8
    have N8 := N7.next hB8
    clear M7a0 M7a1 M7a2 M7a3 M7a4 M7l
    clear N7a0 N7a1 N7a2 N7a3 N7a4 N7a5 N7l
    clear hB8 M7 N7
    have M8a0 : w8.cell? ⟨w.heap.size, 0, none⟩ = some (.string os) := M8.a 0
    have M8a1 : w8.cell? ⟨w.heap.size, 1, none⟩ = some (.string arch) := M8.a 1
    have M8a2 : w8.cell? ⟨w.heap.size, 2, none⟩ = some (.bool cgo) := M8.a 2
    have M8a3 : w8.cell? ⟨w.heap.size, 3, none⟩ = some (.int .i64 lv) := M8.a 3
    have M8a4 : w8.cell? ⟨w.heap.size, 4, none⟩ = some (.slice p m cp) := M8.a 4
    have M8l := M8.l
    have N8a0 : w8.cell? ⟨w5.heap.size, 0, none⟩ = some (.string ⟨#[112]⟩) := N8.a 0
    have N8a1 : w8.cell? ⟨w5.heap.size, 1, none⟩ = some (.slice none 0 0) := N8.a 1
    have N8a2 : w8.cell? ⟨w5.heap.size, 2, none⟩ = some (.string ⟨#[]⟩) := N8.a 2
    have N8a3 : w8.cell? ⟨w5.heap.size, 3, none⟩ = some (.slice none 0 0) := N8.a 3
    have N8a4 : w8.cell? ⟨w5.heap.size, 4, none⟩ = some (.int .i64 0) := N8.a 4
    have N8a5 : w8.cell? ⟨w5.heap.size, 5, none⟩ = some (.int .i64 0) := N8.a 5
    have N8l := N8.l
    go_wp2_with fail
    refine (HP1.out _ M8.bl).mono ?_
    rintro e w9 ⟨rfl, hB9⟩
    have M9 := M8.next hB9
    have N9 := N8.next hB9
    clear M8a0 M8a1 M8a2 M8a3 M8a4 M8l
    clear N8a0 N8a1 N8a2 N8a3 N8a4 N8a5 N8l
    clear hB9 M8 N8
    have M9a0 : w9.cell? ⟨w.heap.size, 0, none⟩ = some (.string os) := M9.a 0
    have M9a1 : w9.cell? ⟨w.heap.size, 1, none⟩ = some (.string arch) := M9.a 1
    have M9a2 : w9.cell? ⟨w.heap.size, 2, none⟩ = some (.bool cgo) := M9.a 2
    have M9a3 : w9.cell? ⟨w.heap.size, 3, none⟩ = some (.int .i64 lv) := M9.a 3
    have M9a4 : w9.cell? ⟨w.heap.size, 4, none⟩ = some (.slice p m cp) := M9.a 4
    have M9l := M9.l
    have N9a0 : w9.cell? ⟨w5.heap.size, 0, none⟩ = some (.string ⟨#[112]⟩) := N9.a 0
    have N9a1 : w9.cell? ⟨w5.heap.size, 1, none⟩ = some (.slice none 0 0) := N9.a 1
    have N9a2 : w9.cell? ⟨w5.heap.size, 2, none⟩ = some (.string ⟨#[]⟩) := N9.a 2
    have N9a3 : w9.cell? ⟨w5.heap.size, 3, none⟩ = some (.slice none 0 0) := N9.a 3
    have N9a4 : w9.cell? ⟨w5.heap.size, 4, none⟩ = some (.int .i64 0) := N9.a 4
    have N9a5 : w9.cell? ⟨w5.heap.size, 5, none⟩ = some (.int .i64 0) := N9.a 5
    have N9l := N9.l
    go_wp2_with fail
    refine (HB1.out _ M9.bl).mono ?_
    rintro e w10 ⟨rfl, hB10⟩
    have M10 := M9.next hB10
    have N10 := N9.next hB10
    clear M9a0 M9a1 M9a2 M9a3 M9a4 M9l
    clear N9a0 N9a1 N9a2 N9a3 N9a4 N9a5 N9l
    clear hB10 M9 N9
    obtain ⟨tk, hbk⟩ := M10.bk
    have HL := Lib.hid (fun v1 (h1 : Below w10.heap.size w10 v1) => (h1.block _ M10.l).trans hbk)
    have HO1R := Lib.hid (fun v1 (h1 : Below w10.heap.size w10 v1) => (HO1.out v1 (M10.bl.trans (h1.mono M10.bl.size))).mono (fun e v2 hh => (⟨hh.1, h1.trans (hh.2.mono h1.size)⟩ : e = .returned (.bool true) ∧ Below w10.heap.size w10 v2)))
    have HO2R := Lib.hid (fun v1 (h1 : Below w10.heap.size w10 v1) => (HO2.out v1 (M10.bl.trans (h1.mono M10.bl.size))).mono (fun e v2 hh => (⟨hh.1, h1.trans (hh.2.mono h1.size)⟩ : e = .returned (.bool false) ∧ Below w10.heap.size w10 v2)))
    have Hb := Lib.hid M10.bl
    clear hbk M10 N10
    go_wp2_with fail
    refine wp_region_class (Below w10.heap.size w10) (by kernel_rfl) (by kernel_rfl) (Below.refl _ _).drew ?_
    refine wpQuiet_load_row rfl 24 (.tmp 4) rfl w.heap.size rfl tk #[.string os, .string arch, .bool cgo, .int .i64 lv, .slice p m cp] (0, 0) _ HL.out Tryz.underlying24 rfl (by kernel_rfl) ?_
    simp only [Act.put, List.setIfInBounds_toArray, List.set_cons_succ, List.set_cons_zero]
    repeat (go_big_quiet_step (first | (intro hh; with_reducible exact HO1R.out _ hh) | (intro hh; with_reducible exact HO2R.out _ hh)))
    refine wpQuiet_load_row rfl 24 (.tmp 4) rfl w.heap.size rfl tk #[.string os, .string arch, .bool cgo, .int .i64 lv, .slice p m cp] (0, 0) _ HL.out Tryz.underlying24 rfl (by kernel_rfl) ?_
    simp only [Act.put, List.setIfInBounds_toArray, List.set_cons_succ, List.set_cons_zero]
    repeat (go_big_quiet_step (first | (intro hh; with_reducible exact HO1R.out _ hh) | (intro hh; with_reducible exact HO2R.out _ hh)))
    refine wpQuiet_nil ?_
    intro wq hBq
    have hb7 := Hb.out.trans (hBq.mono Hb.out.size)
    clear hBq
    go_wp2_with fail
    go_ret
    exact ⟨rfl, hb7⟩
  · have HS1 := Lib.hid (HSo true hbo)
    have HP1 := Lib.hid (HPa true hba)
    have HB1 := Lib.hid (HBo true rfl)
    have HO1 := Lib.hid HOo
    have HO2 := Lib.hid HOa
    clear HSo HPa HBo HOo HOa HS HP HB HO hbo hba
    simp only [cond_true] at HS1 HP1 HB1
    go_wp2_with fail
    have M6 := M5.alloc (Obj.cells #[.string ⟨#[112]⟩, .slice none 0 0, .string ⟨#[]⟩, .slice none 0 0, .int .i64 0, .int .i64 0] 33)
    have N6 := mem1_new w5 #[.string ⟨#[112]⟩, .slice none 0 0, .string ⟨#[]⟩, .slice none 0 0, .int .i64 0, .int .i64 0] 33
    refine (HF.out _ M6.bl).mono ?_
    rintro e w7 ⟨rfl, hB7⟩
    have M7 := M6.next hB7
    have N7 := N6.next hB7
    clear M5a0 M5a1 M5a2 M5a3 M5a4 M5l
    clear hB7 M6 N6
    have M7a0 : w7.cell? ⟨w.heap.size, 0, none⟩ = some (.string os) := M7.a 0
    have M7a1 : w7.cell? ⟨w.heap.size, 1, none⟩ = some (.string arch) := M7.a 1
    have M7a2 : w7.cell? ⟨w.heap.size, 2, none⟩ = some (.bool cgo) := M7.a 2
    have M7a3 : w7.cell? ⟨w.heap.size, 3, none⟩ = some (.int .i64 lv) := M7.a 3
    have M7a4 : w7.cell? ⟨w.heap.size, 4, none⟩ = some (.slice p m cp) := M7.a 4
    have M7l := M7.l
    have N7a0 : w7.cell? ⟨w5.heap.size, 0, none⟩ = some (.string ⟨#[112]⟩) := N7.a 0
    have N7a1 : w7.cell? ⟨w5.heap.size, 1, none⟩ = some (.slice none 0 0) := N7.a 1
    have N7a2 : w7.cell? ⟨w5.heap.size, 2, none⟩ = some (.string ⟨#[]⟩) := N7.a 2
    have N7a3 : w7.cell? ⟨w5.heap.size, 3, none⟩ = some (.slice none 0 0) := N7.a 3
    have N7a4 : w7.cell? ⟨w5.heap.size, 4, none⟩ = some (.int .i64 0) := N7.a 4
    have N7a5 : w7.cell? ⟨w5.heap.size, 5, none⟩ = some (.int .i64 0) := N7.a 5
    have N7l := N7.l
    go_wp2_with fail
    refine (HS1.out _ M7.bl).mono ?_
    rintro e w8 ⟨rfl, hB8⟩
    have M8 := M7.next hB8
    have N8 := N7.next hB8
    clear M7a0 M7a1 M7a2 M7a3 M7a4 M7l
    clear N7a0 N7a1 N7a2 N7a3 N7a4 N7a5 N7l
    clear hB8 M7 N7
    have M8a0 : w8.cell? ⟨w.heap.size, 0, none⟩ = some (.string os) := M8.a 0
    have M8a1 : w8.cell? ⟨w.heap.size, 1, none⟩ = some (.string arch) := M8.a 1
    have M8a2 : w8.cell? ⟨w.heap.size, 2, none⟩ = some (.bool cgo) := M8.a 2
    have M8a3 : w8.cell? ⟨w.heap.size, 3, none⟩ = some (.int .i64 lv) := M8.a 3
    have M8a4 : w8.cell? ⟨w.heap.size, 4, none⟩ = some (.slice p m cp) := M8.a 4
    have M8l := M8.l
    have N8a0 : w8.cell? ⟨w5.heap.size, 0, none⟩ = some (.string ⟨#[112]⟩) := N8.a 0
    have N8a1 : w8.cell? ⟨w5.heap.size, 1, none⟩ = some (.slice none 0 0) := N8.a 1
    have N8a2 : w8.cell? ⟨w5.heap.size, 2, none⟩ = some (.string ⟨#[]⟩) := N8.a 2
    have N8a3 : w8.cell? ⟨w5.heap.size, 3, none⟩ = some (.slice none 0 0) := N8.a 3
    have N8a4 : w8.cell? ⟨w5.heap.size, 4, none⟩ = some (.int .i64 0) := N8.a 4
    have N8a5 : w8.cell? ⟨w5.heap.size, 5, none⟩ = some (.int .i64 0) := N8.a 5
    have N8l := N8.l
    go_wp2_with fail
    refine (HP1.out _ M8.bl).mono ?_
    rintro e w9 ⟨rfl, hB9⟩
    have M9 := M8.next hB9
    have N9 := N8.next hB9
    clear M8a0 M8a1 M8a2 M8a3 M8a4 M8l
    clear N8a0 N8a1 N8a2 N8a3 N8a4 N8a5 N8l
    clear hB9 M8 N8
    have M9a0 : w9.cell? ⟨w.heap.size, 0, none⟩ = some (.string os) := M9.a 0
    have M9a1 : w9.cell? ⟨w.heap.size, 1, none⟩ = some (.string arch) := M9.a 1
    have M9a2 : w9.cell? ⟨w.heap.size, 2, none⟩ = some (.bool cgo) := M9.a 2
    have M9a3 : w9.cell? ⟨w.heap.size, 3, none⟩ = some (.int .i64 lv) := M9.a 3
    have M9a4 : w9.cell? ⟨w.heap.size, 4, none⟩ = some (.slice p m cp) := M9.a 4
    have M9l := M9.l
    have N9a0 : w9.cell? ⟨w5.heap.size, 0, none⟩ = some (.string ⟨#[112]⟩) := N9.a 0
    have N9a1 : w9.cell? ⟨w5.heap.size, 1, none⟩ = some (.slice none 0 0) := N9.a 1
    have N9a2 : w9.cell? ⟨w5.heap.size, 2, none⟩ = some (.string ⟨#[]⟩) := N9.a 2
    have N9a3 : w9.cell? ⟨w5.heap.size, 3, none⟩ = some (.slice none 0 0) := N9.a 3
    have N9a4 : w9.cell? ⟨w5.heap.size, 4, none⟩ = some (.int .i64 0) := N9.a 4
    have N9a5 : w9.cell? ⟨w5.heap.size, 5, none⟩ = some (.int .i64 0) := N9.a 5
    have N9l := N9.l
    go_wp2_with fail
    refine (HB1.out _ M9.bl).mono ?_
    rintro e w10 ⟨rfl, hB10⟩
    have M10 := M9.next hB10
    have N10 := N9.next hB10
    clear M9a0 M9a1 M9a2 M9a3 M9a4 M9l
    clear N9a0 N9a1 N9a2 N9a3 N9a4 N9a5 N9l
    clear hB10 M9 N9
    obtain ⟨tk, hbk⟩ := M10.bk
    have HL := Lib.hid (fun v1 (h1 : Below w10.heap.size w10 v1) => (h1.block _ M10.l).trans hbk)
    have HO1R := Lib.hid (fun v1 (h1 : Below w10.heap.size w10 v1) => (HO1.out v1 (M10.bl.trans (h1.mono M10.bl.size))).mono (fun e v2 hh => (⟨hh.1, h1.trans (hh.2.mono h1.size)⟩ : e = .returned (.bool true) ∧ Below w10.heap.size w10 v2)))
    have HO2R := Lib.hid (fun v1 (h1 : Below w10.heap.size w10 v1) => (HO2.out v1 (M10.bl.trans (h1.mono M10.bl.size))).mono (fun e v2 hh => (⟨hh.1, h1.trans (hh.2.mono h1.size)⟩ : e = .returned (.bool true) ∧ Below w10.heap.size w10 v2)))
    have Hb := Lib.hid M10.bl
    clear hbk M10 N10
    go_wp2_with fail
    refine wp_region_class (Below w10.heap.size w10) (by kernel_rfl) (by kernel_rfl) (Below.refl _ _).drew ?_
    refine wpQuiet_load_row rfl 24 (.tmp 4) rfl w.heap.size rfl tk #[.string os, .string arch, .bool cgo, .int .i64 lv, .slice p m cp] (0, 0) _ HL.out Tryz.underlying24 rfl (by kernel_rfl) ?_
    simp only [Act.put, List.setIfInBounds_toArray, List.set_cons_succ, List.set_cons_zero]
    repeat (go_big_quiet_step (first | (intro hh; with_reducible exact HO1R.out _ hh) | (intro hh; with_reducible exact HO2R.out _ hh)))
    refine wpQuiet_load_row rfl 24 (.tmp 4) rfl w.heap.size rfl tk #[.string os, .string arch, .bool cgo, .int .i64 lv, .slice p m cp] (0, 0) _ HL.out Tryz.underlying24 rfl (by kernel_rfl) ?_
    simp only [Act.put, List.setIfInBounds_toArray, List.set_cons_succ, List.set_cons_zero]
    repeat (go_big_quiet_step (first | (intro hh; with_reducible exact HO1R.out _ hh) | (intro hh; with_reducible exact HO2R.out _ hh)))
    refine wpQuiet_nil ?_
    intro wq hBq
    have hb7 := Hb.out.trans (hBq.mono Hb.out.size)
    clear hBq
    go_wp2_with fail
    go_ret
    exact ⟨rfl, hb7⟩
end Go.Proofs.YtpibehfmbmincaaGreatDoor
