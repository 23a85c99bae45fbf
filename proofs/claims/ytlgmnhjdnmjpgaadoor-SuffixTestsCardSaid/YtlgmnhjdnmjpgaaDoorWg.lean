/- Walks: the document's Of answers ofB. -/
import Derived.Test.YtlgmnhjdnmjpgaaDoorWf
namespace Go.Proofs.YtlgmnhjdnmjpgaaDoor
set_option linter.unusedVariables false
open Go.ChangeShapes Go.WideShapes Go.ChangeAt Go.RowKit

def tagsQ (n : Nat) (a b c : Bool) (y z : ByteArray) : ByteArray × ByteArray :=
  if 3 ≤ n ∧ a = true ∧ b = true then (y, z) else if 2 ≤ n ∧ c = true then (z, ⟨#[]⟩) else if 2 ≤ n ∧ b = true then (⟨#[]⟩, z) else (⟨#[]⟩, ⟨#[]⟩)
theorem tagsB_eq (l : List ByteArray) : tagsB l = tagsQ l.length (inB sysL (l.getD (l.length - 2) ByteArray.empty)) (inB procL (l.getD (l.length - 1) ByteArray.empty)) (inB sysL (l.getD (l.length - 1) ByteArray.empty)) (l.getD (l.length - 2) ByteArray.empty) (l.getD (l.length - 1) ByteArray.empty) := rfl

theorem cut95 (r : ByteArray) (hrs : r.size ≤ 1073741824) (w1 : World) : Calls Tryd.prog 20 #[.string r, .int .u8 95] w1 fun e w' => ∃ g cap, e = .returned (.slice (some ⟨g, 0, none⟩) (cutB 95 r).length cap) ∧ w1.heap.size ≤ g ∧ g < w'.heap.size ∧ (cutB 95 r).length ≤ cap ∧ cap ≤ 9223372036854775807 ∧ Below w1.heap.size w1 w' ∧ w'.cell? ⟨g, (cutB 95 r).length - 1, none⟩ = some (.string ((cutB 95 r).getD ((cutB 95 r).length - 1) ByteArray.empty)) ∧ (2 ≤ (cutB 95 r).length → w'.cell? ⟨g, (cutB 95 r).length - 2, none⟩ = some (.string ((cutB 95 r).getD ((cutB 95 r).length - 2) ByteArray.empty))) := by
  refine (cut_any r 95 w1 hrs).mono ?_
  rintro e w' ⟨v, rfl, hv, hB⟩
  obtain ⟨g, cap, rfl, hg, hgs, hcap, hmax, hcell⟩ := row_cells hv (cutB_ne _ _)
  have hp := cutB_ne 95 r
  exact ⟨g, cap, rfl, hg, hgs, hcap, hmax, hB, hcell _ (by omega), fun h2 => hcell _ (by omega)⟩

theorem refOf_tail0 (s q : ByteArray) (w : World) (h0 : 0 < s.size) (h3 : 3 ≤ s.size) (hs : s.size ≤ 1073741824) (h1 : (((s[0]'h0).toNat : Int) == 95) = false) (h2 : (((s[0]'h0).toNat : Int) == 46) = false) (hq : s.extract 0 (s.size - 3) = q) (hqs : q.size ≤ 1073741824) (HE : (∀ w1, Calls Tryd.prog 21 #[.string s, .string ⟨#[46, 103, 111]⟩] w1 fun e w' => e = .returned (.bool true) ∧ w1 = w')) (HT : (∀ w1, Calls Tryd.prog 21 #[.string q, .string ⟨#[95, 116, 101, 115, 116]⟩] w1 fun e w' => e = .returned (.bool false) ∧ w1 = w')) :
    Calls Tryd.prog 16 #[.string s] w fun e w' => e = .returned (.tuple #[.bool true, .bool false, .string (tagsB (cutB 95 q)).1, .string (tagsB (cutB 95 q)).2]) ∧ Below w.heap.size w w' := by
  have HC := cut95 q hqs
  have hlen := cnt_len (cutB 95 q)
  rw [cutB_cnt] at hlen
  have hpos := cutB_ne 95 q
  rw [tagsB_eq]
  generalize cutB 95 q = L at *
  generalize L.length = n at *
  have HY := refSystem_any (L.getD (n - 2) ByteArray.empty)
  have HS := refSystem_any (L.getD (n - 1) ByteArray.empty)
  have HP := refProcessor_any (L.getD (n - 1) ByteArray.empty)
  generalize L.getD (n - 2) ByteArray.empty = y at *
  generalize L.getD (n - 1) ByteArray.empty = z at *
  have hsp := sys_not_proc z
  generalize inB sysL y = a at *
  generalize inB procL z = b at *
  generalize inB sysL z = c at *
  have hle : n ≤ 1073741825 := by omega
  clear hlen
  by_cases hn1 : n = 1
  · subst hn1
    rw [show tagsQ 1 a b c y z = (⟨#[]⟩, ⟨#[]⟩) by simp [tagsQ]]
    exact refOf_01000 s q w h0 h3 hs h1 h2 hq hqs HE HT (fun w1 => (HC w1).mono (by rintro e w' ⟨g, cap, he, a1, a2, a3, a4, a5, a6, a7⟩; exact ⟨g, cap, he, a1, a2, a3, a4, a5⟩))
  by_cases hn2 : n = 2
  · subst hn2
    cases c with
    | true =>
      have hb : b = false := hsp rfl
      subst hb
      rw [show tagsQ 2 a false true y z = (z, ⟨#[]⟩) by simp [tagsQ]]
      exact refOf_02001 s q z w h0 h3 hs h1 h2 hq hqs HE HT (fun w1 => (HC w1).mono (by rintro e w' ⟨g, cap, he, a1, a2, a3, a4, a5, a6, a7⟩; exact ⟨g, cap, he, a1, a2, a3, a4, a5, a6⟩)) HS
    | false =>
      cases b with
      | true =>
        rw [show tagsQ 2 a true false y z = (⟨#[]⟩, z) by simp [tagsQ]]
        exact refOf_02010 s q z w h0 h3 hs h1 h2 hq hqs HE HT (fun w1 => (HC w1).mono (by rintro e w' ⟨g, cap, he, a1, a2, a3, a4, a5, a6, a7⟩; exact ⟨g, cap, he, a1, a2, a3, a4, a5, a6⟩)) HS HP
      | false =>
        rw [show tagsQ 2 a false false y z = (⟨#[]⟩, ⟨#[]⟩) by simp [tagsQ]]
        exact refOf_02000 s q z w h0 h3 hs h1 h2 hq hqs HE HT (fun w1 => (HC w1).mono (by rintro e w' ⟨g, cap, he, a1, a2, a3, a4, a5, a6, a7⟩; exact ⟨g, cap, he, a1, a2, a3, a4, a5, a6⟩)) HS HP
  have hn3 : 3 ≤ n := by omega
  cases a with
  | true =>
    cases b with
    | true =>
      rw [show tagsQ n true true c y z = (y, z) by simp [tagsQ, hn3]]
      exact refOf_03110 s q z y n w hn3 hle h0 h3 hs h1 h2 hq hqs HE HT (fun w1 => (HC w1).mono (by rintro e w' ⟨g, cap, he, a1, a2, a3, a4, a5, a6, a7⟩; exact ⟨g, cap, he, a1, a2, a3, a4, a5, a6, a7 (by omega)⟩)) HY HP
    | false =>
      cases c with
      | true =>
        rw [show tagsQ n true false true y z = (z, ⟨#[]⟩) by simp [tagsQ, show 2 ≤ n by omega]]
        exact refOf_03101 s q z y n w hn3 hle h0 h3 hs h1 h2 hq hqs HE HT (fun w1 => (HC w1).mono (by rintro e w' ⟨g, cap, he, a1, a2, a3, a4, a5, a6, a7⟩; exact ⟨g, cap, he, a1, a2, a3, a4, a5, a6, a7 (by omega)⟩)) HY HS HP
      | false =>
        rw [show tagsQ n true false false y z = (⟨#[]⟩, ⟨#[]⟩) by simp [tagsQ]]
        exact refOf_03100 s q z y n w hn3 hle h0 h3 hs h1 h2 hq hqs HE HT (fun w1 => (HC w1).mono (by rintro e w' ⟨g, cap, he, a1, a2, a3, a4, a5, a6, a7⟩; exact ⟨g, cap, he, a1, a2, a3, a4, a5, a6, a7 (by omega)⟩)) HY HS HP
  | false =>
    cases c with
    | true =>
      have hb : b = false := hsp rfl
      subst hb
      rw [show tagsQ n false false true y z = (z, ⟨#[]⟩) by simp [tagsQ, show 2 ≤ n by omega]]
      exact refOf_03001 s q z y n w hn3 hle h0 h3 hs h1 h2 hq hqs HE HT (fun w1 => (HC w1).mono (by rintro e w' ⟨g, cap, he, a1, a2, a3, a4, a5, a6, a7⟩; exact ⟨g, cap, he, a1, a2, a3, a4, a5, a6, a7 (by omega)⟩)) HY HS
    | false =>
      cases b with
      | true =>
        rw [show tagsQ n false true false y z = (⟨#[]⟩, z) by simp [tagsQ, show 2 ≤ n by omega]]
        exact refOf_03010 s q z y n w hn3 hle h0 h3 hs h1 h2 hq hqs HE HT (fun w1 => (HC w1).mono (by rintro e w' ⟨g, cap, he, a1, a2, a3, a4, a5, a6, a7⟩; exact ⟨g, cap, he, a1, a2, a3, a4, a5, a6, a7 (by omega)⟩)) HY HS HP
      | false =>
        rw [show tagsQ n false false false y z = (⟨#[]⟩, ⟨#[]⟩) by simp [tagsQ]]
        exact refOf_03000 s q z y n w hn3 hle h0 h3 hs h1 h2 hq hqs HE HT (fun w1 => (HC w1).mono (by rintro e w' ⟨g, cap, he, a1, a2, a3, a4, a5, a6, a7⟩; exact ⟨g, cap, he, a1, a2, a3, a4, a5, a6, a7 (by omega)⟩)) HY HS HP

theorem refOf_tail1 (s q r : ByteArray) (w : World) (h0 : 0 < s.size) (h3 : 3 ≤ s.size) (hs : s.size ≤ 1073741824) (h1 : (((s[0]'h0).toNat : Int) == 95) = false) (h2 : (((s[0]'h0).toNat : Int) == 46) = false) (hq : s.extract 0 (s.size - 3) = q) (hqs : q.size ≤ 1073741824) (h5 : 5 ≤ q.size) (hr : q.extract 0 (q.size - 5) = r) (hrs : r.size ≤ 1073741824) (HE : (∀ w1, Calls Tryd.prog 21 #[.string s, .string ⟨#[46, 103, 111]⟩] w1 fun e w' => e = .returned (.bool true) ∧ w1 = w')) (HT : (∀ w1, Calls Tryd.prog 21 #[.string q, .string ⟨#[95, 116, 101, 115, 116]⟩] w1 fun e w' => e = .returned (.bool true) ∧ w1 = w')) :
    Calls Tryd.prog 16 #[.string s] w fun e w' => e = .returned (.tuple #[.bool true, .bool true, .string (tagsB (cutB 95 r)).1, .string (tagsB (cutB 95 r)).2]) ∧ Below w.heap.size w w' := by
  have HC := cut95 r hrs
  have hlen := cnt_len (cutB 95 r)
  rw [cutB_cnt] at hlen
  have hpos := cutB_ne 95 r
  rw [tagsB_eq]
  generalize cutB 95 r = L at *
  generalize L.length = n at *
  have HY := refSystem_any (L.getD (n - 2) ByteArray.empty)
  have HS := refSystem_any (L.getD (n - 1) ByteArray.empty)
  have HP := refProcessor_any (L.getD (n - 1) ByteArray.empty)
  generalize L.getD (n - 2) ByteArray.empty = y at *
  generalize L.getD (n - 1) ByteArray.empty = z at *
  have hsp := sys_not_proc z
  generalize inB sysL y = a at *
  generalize inB procL z = b at *
  generalize inB sysL z = c at *
  have hle : n ≤ 1073741825 := by omega
  clear hlen
  by_cases hn1 : n = 1
  · subst hn1
    rw [show tagsQ 1 a b c y z = (⟨#[]⟩, ⟨#[]⟩) by simp [tagsQ]]
    exact refOf_11000 s q r w h0 h3 hs h1 h2 hq hqs h5 hr HE HT (fun w1 => (HC w1).mono (by rintro e w' ⟨g, cap, he, a1, a2, a3, a4, a5, a6, a7⟩; exact ⟨g, cap, he, a1, a2, a3, a4, a5⟩))
  by_cases hn2 : n = 2
  · subst hn2
    cases c with
    | true =>
      have hb : b = false := hsp rfl
      subst hb
      rw [show tagsQ 2 a false true y z = (z, ⟨#[]⟩) by simp [tagsQ]]
      exact refOf_12001 s q r z w h0 h3 hs h1 h2 hq hqs h5 hr HE HT (fun w1 => (HC w1).mono (by rintro e w' ⟨g, cap, he, a1, a2, a3, a4, a5, a6, a7⟩; exact ⟨g, cap, he, a1, a2, a3, a4, a5, a6⟩)) HS
    | false =>
      cases b with
      | true =>
        rw [show tagsQ 2 a true false y z = (⟨#[]⟩, z) by simp [tagsQ]]
        exact refOf_12010 s q r z w h0 h3 hs h1 h2 hq hqs h5 hr HE HT (fun w1 => (HC w1).mono (by rintro e w' ⟨g, cap, he, a1, a2, a3, a4, a5, a6, a7⟩; exact ⟨g, cap, he, a1, a2, a3, a4, a5, a6⟩)) HS HP
      | false =>
        rw [show tagsQ 2 a false false y z = (⟨#[]⟩, ⟨#[]⟩) by simp [tagsQ]]
        exact refOf_12000 s q r z w h0 h3 hs h1 h2 hq hqs h5 hr HE HT (fun w1 => (HC w1).mono (by rintro e w' ⟨g, cap, he, a1, a2, a3, a4, a5, a6, a7⟩; exact ⟨g, cap, he, a1, a2, a3, a4, a5, a6⟩)) HS HP
  have hn3 : 3 ≤ n := by omega
  cases a with
  | true =>
    cases b with
    | true =>
      rw [show tagsQ n true true c y z = (y, z) by simp [tagsQ, hn3]]
      exact refOf_13110 s q r z y n w hn3 hle h0 h3 hs h1 h2 hq hqs h5 hr HE HT (fun w1 => (HC w1).mono (by rintro e w' ⟨g, cap, he, a1, a2, a3, a4, a5, a6, a7⟩; exact ⟨g, cap, he, a1, a2, a3, a4, a5, a6, a7 (by omega)⟩)) HY HP
    | false =>
      cases c with
      | true =>
        rw [show tagsQ n true false true y z = (z, ⟨#[]⟩) by simp [tagsQ, show 2 ≤ n by omega]]
        exact refOf_13101 s q r z y n w hn3 hle h0 h3 hs h1 h2 hq hqs h5 hr HE HT (fun w1 => (HC w1).mono (by rintro e w' ⟨g, cap, he, a1, a2, a3, a4, a5, a6, a7⟩; exact ⟨g, cap, he, a1, a2, a3, a4, a5, a6, a7 (by omega)⟩)) HY HS HP
      | false =>
        rw [show tagsQ n true false false y z = (⟨#[]⟩, ⟨#[]⟩) by simp [tagsQ]]
        exact refOf_13100 s q r z y n w hn3 hle h0 h3 hs h1 h2 hq hqs h5 hr HE HT (fun w1 => (HC w1).mono (by rintro e w' ⟨g, cap, he, a1, a2, a3, a4, a5, a6, a7⟩; exact ⟨g, cap, he, a1, a2, a3, a4, a5, a6, a7 (by omega)⟩)) HY HS HP
  | false =>
    cases c with
    | true =>
      have hb : b = false := hsp rfl
      subst hb
      rw [show tagsQ n false false true y z = (z, ⟨#[]⟩) by simp [tagsQ, show 2 ≤ n by omega]]
      exact refOf_13001 s q r z y n w hn3 hle h0 h3 hs h1 h2 hq hqs h5 hr HE HT (fun w1 => (HC w1).mono (by rintro e w' ⟨g, cap, he, a1, a2, a3, a4, a5, a6, a7⟩; exact ⟨g, cap, he, a1, a2, a3, a4, a5, a6, a7 (by omega)⟩)) HY HS
    | false =>
      cases b with
      | true =>
        rw [show tagsQ n false true false y z = (⟨#[]⟩, z) by simp [tagsQ, show 2 ≤ n by omega]]
        exact refOf_13010 s q r z y n w hn3 hle h0 h3 hs h1 h2 hq hqs h5 hr HE HT (fun w1 => (HC w1).mono (by rintro e w' ⟨g, cap, he, a1, a2, a3, a4, a5, a6, a7⟩; exact ⟨g, cap, he, a1, a2, a3, a4, a5, a6, a7 (by omega)⟩)) HY HS HP
      | false =>
        rw [show tagsQ n false false false y z = (⟨#[]⟩, ⟨#[]⟩) by simp [tagsQ]]
        exact refOf_13000 s q r z y n w hn3 hle h0 h3 hs h1 h2 hq hqs h5 hr HE HT (fun w1 => (HC w1).mono (by rintro e w' ⟨g, cap, he, a1, a2, a3, a4, a5, a6, a7⟩; exact ⟨g, cap, he, a1, a2, a3, a4, a5, a6, a7 (by omega)⟩)) HY HS HP

def tup4 (r : Bool × Bool × ByteArray × ByteArray) : Value := .tuple #[.bool r.1, .bool r.2.1, .string r.2.2.1, .string r.2.2.2]
theorem head_is (s : ByteArray) (h0 : 0 < s.size) (c : UInt8) : (((s[0]'h0).toNat : Int) == (c.toNat : Int)) = (s.data.toList.head? == some c) := by
  rw [head_of s h0, Bool.eq_iff_iff]
  simp only [beq_iff_eq, Option.some.injEq]
  constructor
  · intro h; exact UInt8.toNat_inj.1 (by omega)
  · intro h; rw [h]
theorem ex_size (s : ByteArray) (k : Nat) : (s.extract 0 (s.size - k)).size ≤ s.size := by
  rw [ByteArray.size_extract]; omega
set_option maxHeartbeats 1000000 in
theorem refOf_any (s : ByteArray) (w : World) (hs : s.size ≤ 1073741824) : Calls Tryd.prog 16 #[.string s] w fun e w' => e = .returned (tup4 (ofB s)) ∧ Below w.heap.size w w' := by
  have HE : ∀ w1, Calls Tryd.prog 21 #[.string s, .string ⟨#[46, 103, 111]⟩] w1 fun e w' => e = .returned (.bool (endsB s goE)) ∧ w1 = w' := fun w1 => ends_any s goE w1 hs (by decide)
  by_cases he : endsB s goE = true
  · rw [he] at HE
    have h3 : 3 ≤ s.size := ends_size he
    have h0 : 0 < s.size := by omega
    by_cases p1 : (s.data.toList.head? == some 95) = true
    · have e : ofB s = (false, false, ⟨#[]⟩, ⟨#[]⟩) := by unfold ofB; rw [if_pos]; right; unfold passB; rw [p1]; rfl
      rw [e]
      exact refOf_passa s w h0 ((head_is s h0 95).trans p1) HE
    by_cases p2 : (s.data.toList.head? == some 46) = true
    · have e : ofB s = (false, false, ⟨#[]⟩, ⟨#[]⟩) := by unfold ofB; rw [if_pos]; right; unfold passB; rw [p2]; simp
      rw [e]
      exact refOf_passb s w h0 ((head_is s h0 95).trans (Bool.eq_false_iff.2 p1)) ((head_is s h0 46).trans p2) HE
    have e : ofB s = (true, endsB (s.extract 0 (s.size - 3)) testE, tagsB (cutB 95 (restB (s.extract 0 (s.size - 3))))) := by
      unfold ofB
      rw [if_neg]
      rintro (h | h)
      · rw [he] at h; cases h
      · unfold passB at h
        rw [Bool.eq_false_iff.2 p1, Bool.eq_false_iff.2 p2] at h
        cases h
    rw [e]
    have hqs := ex_size s 3
    generalize hq : s.extract 0 (s.size - 3) = q at *
    have HT : ∀ w1, Calls Tryd.prog 21 #[.string q, .string ⟨#[95, 116, 101, 115, 116]⟩] w1 fun e w' => e = .returned (.bool (endsB q testE)) ∧ w1 = w' := fun w1 => ends_any q testE w1 (by omega) (by decide)
    by_cases ht : endsB q testE = true
    · have h5 : 5 ≤ q.size := ends_size ht
      have hrs := ex_size q 5
      unfold restB
      rw [ht] at HT ⊢
      rw [if_pos rfl]
      exact refOf_tail1 s q _ w h0 h3 hs ((head_is s h0 95).trans (Bool.eq_false_iff.2 p1)) ((head_is s h0 46).trans (Bool.eq_false_iff.2 p2)) hq (by omega) h5 rfl (by omega) HE HT
    · have ht := Bool.eq_false_iff.2 ht
      unfold restB
      rw [ht] at HT ⊢
      rw [if_neg (by decide)]
      exact refOf_tail0 s q w h0 h3 hs ((head_is s h0 95).trans (Bool.eq_false_iff.2 p1)) ((head_is s h0 46).trans (Bool.eq_false_iff.2 p2)) hq (by omega) HE HT
  · have he := Bool.eq_false_iff.2 he
    rw [he] at HE
    have e : ofB s = (false, false, ⟨#[]⟩, ⟨#[]⟩) := by unfold ofB; rw [if_pos (.inl he)]
    rw [e]
    exact refOf_end s w HE
end Go.Proofs.YtlgmnhjdnmjpgaaDoor
