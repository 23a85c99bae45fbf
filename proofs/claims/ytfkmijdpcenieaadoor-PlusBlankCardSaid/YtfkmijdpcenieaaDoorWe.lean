/- Walks: whether two lists of texts are the same. -/
import Derived.Test.YtfkmijdpcenieaaDoorAp
namespace Go.Proofs.YtfkmijdpcenieaaDoor
set_option linter.unusedVariables false
open Go.ChangeShapes Go.WideShapes Go.ChangeAt Go.RowKit

theorem same_len (v u : Value) (a b : List ByteArray) (w : World) (hv : Strs w v a) (hu : Strs w u b) (hl : a.length ≠ b.length) (ha : a.length ≤ 9223372036854775807) (hb : b.length ≤ 9223372036854775807) :
    Calls Tryd.prog 17 #[v, u] w fun e w' => e = .returned (.bool false) ∧ w = w' := by
  obtain ⟨p, hp⟩ : ∃ p c, v = .slice p a.length c := by
    rcases hv with ⟨⟨pz, cz, rfl⟩, rfl⟩ | ⟨b, off, cap, rfl, _⟩
    · exact ⟨_, _, rfl⟩
    · exact ⟨_, _, rfl⟩
  obtain ⟨q, hq⟩ : ∃ p c, u = .slice p b.length c := by
    rcases hu with ⟨⟨pz2, cz2, rfl⟩, rfl⟩ | ⟨b, off, cap, rfl, _⟩
    · exact ⟨_, _, rfl⟩
    · exact ⟨_, _, rfl⟩
  obtain ⟨c, rfl⟩ := hp
  obtain ⟨d, rfl⟩ := hq
  clear hv hu
  generalize a.length = m at *
  generalize b.length = n at *
  have h1 : ((m : Int) != (n : Int)) = true := by rw [bne_iff_ne]; omega
  go_enter Tryd.func17, Tryd.ntmps17
  go_wp2
  go_ret
  exact ⟨rfl, rfl⟩

theorem toList_eq {x y : ByteArray} (h : (!x.toList == y.toList) = false) : x = y := by
  have : x.toList = y.toList := by simpa using h
  rw [Lib.toList_data, Lib.toList_data] at this
  exact ByteArray.ext (Array.toList_inj.1 this)

theorem toList_ne {x y : ByteArray} (h : (!x.toList == y.toList) = true) : x ≠ y := by
  rintro rfl
  simp at h

/-- Two rows of one length, held against each other. -/
def SameEnd (w : World) (a b : List ByteArray) (e : Ending) (w' : World) : Prop := e = .returned (.bool (decide (a = b))) ∧ ∃ k, w' = w.drewN k

set_option maxHeartbeats 400000 in
theorem same_rows (v u : Value) (a b : List ByteArray) (w : World) (hv : Strs w v a) (hu : Strs w u b) (hl : a.length = b.length) :
    Calls Tryd.prog 17 #[v, u] w (SameEnd w a b) := by
  rcases hv with ⟨⟨pz, cz, rfl⟩, rfl⟩ | ⟨b1, o1, c1, rfl, hc1, hm1, hb1, hcell1⟩
  · have : b = [] := by cases b with | nil => rfl | cons _ _ => simp at hl
    subst this
    rcases hu with ⟨⟨pz2, cz2, rfl⟩, _⟩ | ⟨b2, o2, c2, rfl, hc2, hm2, hb2, hcell2⟩
    all_goals
      go_enter Tryd.func17, Tryd.ntmps17
      go_wp2
      refine wp_loop_rounds 1 ?_
      rw [rounds_succ]
      go_wp2
      go_ret
      exact ⟨rfl, 0, rfl⟩
  · rcases hu with ⟨⟨pz2, cz2, rfl⟩, rfl⟩ | ⟨b2, o2, c2, rfl, hc2, hm2, hb2, hcell2⟩
    · have : a = [] := by cases a with | nil => rfl | cons _ _ => simp at hl
      subst this
      go_enter Tryd.func17, Tryd.ntmps17
      go_wp2
      refine wp_loop_rounds 1 ?_
      rw [rounds_succ]
      go_wp2
      go_ret
      exact ⟨rfl, 0, rfl⟩
    · rw [← hl] at hcell2 hc2 ⊢
      obtain ⟨len, hlen⟩ : ∃ len, len = a.length := ⟨_, rfl⟩
      rw [← hlen] at hcell1 hcell2 hc1 hc2 hl ⊢
      have Hlen := Lib.hid hlen
      have Hl := Lib.hid hl
      unfold maxLen at hm1 hm2
      clear hlen hl
      go_enter Tryd.func17, Tryd.ntmps17
      go_wp2
      go_loopw [5, 13] (fun _ i wr => ∃ k : Nat, k ≤ len ∧ i = .int .i64 k ∧ a.take k = b.take k ∧ ∃ j, wr = w.drewN j) (fun _ i _ => len - (intOf i).toNat)
      case atStart => exact ⟨0, by omega, rfl, by simp, 0, rfl⟩
      case round =>
        obtain ⟨k, hk, rfl, htk, j, rfl⟩ := hrel
        have Htk := Lib.hid htk
        clear htk
        by_cases hlt : k < len
        · have hx := hcell1 k hlt
          have hy := hcell2 k hlt
          have hkl : (k : Int) < (len : Int) := by omega
          have hk0 : 0 ≤ (k : Int) := by omega
          clear hcell1 hcell2
          obtain ⟨x, hxe⟩ : ∃ x, x = a.getD k ByteArray.empty := ⟨_, rfl⟩
          obtain ⟨y, hye⟩ : ∃ y, y = b.getD k ByteArray.empty := ⟨_, rfl⟩
          rw [← hxe] at hx
          rw [← hye] at hy
          have Hx := Lib.hid hxe
          have Hy := Lib.hid hye
          clear hxe hye
          go_wp2
          go_quiet (fail)
          go_wp2
          · rename_i hne
            go_ret
            refine ⟨?_, j + nq, by simp⟩
            have : a ≠ b := fun e => toList_ne hne (by rw [Hx.out, Hy.out, e])
            simp [this]
          · rename_i heq
            refine ⟨⟨k + 1, by omega, by go_num, ?_, _, rfl⟩, by simp [intOf]; omega⟩
            have h1 := toList_eq heq
            have h2 := Hlen.out
            have h3 := Hl.out
            rw [Hx.out, Hy.out, List.getD_eq_getElem?_getD, List.getD_eq_getElem?_getD, List.getElem?_eq_getElem (by omega), List.getElem?_eq_getElem (by omega)] at h1
            have e1 := List.take_succ_eq_append_getElem (l := a) (i := k) (by omega)
            have e2 := List.take_succ_eq_append_getElem (l := b) (i := k) (by omega)
            have h4 : a[k]'(by omega) = b[k]'(by omega) := by simpa using h1
            rw [e1, e2, Htk.out, h4]
        · obtain rfl : k = len := by omega
          clear hcell1 hcell2
          go_wp2
          go_ret
          refine ⟨?_, _, rfl⟩
          have h1 := Htk.out
          rw [Hlen.out, List.take_length, ← Hlen.out, Hl.out, List.take_length] at h1
          simp [h1]
theorem same_any (v u : Value) (a b : List ByteArray) (w : World) (hv : Strs w v a) (hu : Strs w u b) (ha : a.length ≤ 9223372036854775807) (hb : b.length ≤ 9223372036854775807) :
    Calls Tryd.prog 17 #[v, u] w fun e w' => e = .returned (.bool (decide (a = b))) ∧ ∃ k, w' = w.drewN k := by
  by_cases h : a.length = b.length
  · exact same_rows v u a b w hv hu h
  · have hne : ¬ a = b := fun e => h (by rw [e])
    exact (same_len v u a b w hv hu h ha hb).mono fun _ _ ⟨h1, h2⟩ => ⟨by simpa [hne] using h1, 0, by rw [← h2]; rfl⟩

/-! ### In -/
/-- Whether a list has a text. -/
def inB (ss : List ByteArray) (x : ByteArray) : Bool := ss.any fun y => decide (y = x)
theorem inB_iff (ss : List ByteArray) (x : ByteArray) : inB ss x = true ↔ x ∈ ss := by
  simp [inB]
theorem inB_not (ss : List ByteArray) (x : ByteArray) : inB ss x = false ↔ x ∉ ss := by
  rw [← inB_iff]; simp

set_option maxHeartbeats 400000 in
theorem in_any (v : Value) (ss : List ByteArray) (x : ByteArray) (w : World) (hv : Strs w v ss) :
    Calls Tryd.prog 34 #[v, .string x] w fun e w' => e = .returned (.bool (inB ss x)) ∧ w = w' := by
  obtain ⟨p, cap, rfl, hp⟩ := strs_shape hv
  have Hp := Lib.hid hp
  obtain ⟨len, hlen⟩ : ∃ len, len = ss.length := ⟨_, rfl⟩
  rw [← hlen] at Hp ⊢
  have Hlen := Lib.hid hlen
  clear hv hp hlen
  go_enter Tryd.func34, Tryd.ntmps34
  go_wp2
  go_loop [6, 9] (fun _ i => ∃ k : Nat, k ≤ len ∧ i = .int .i64 k ∧ x ∉ ss.take k) (fun _ i => len - (intOf i).toNat)
  case atStart => exact ⟨0, by omega, rfl, by simp⟩
  case round =>
    obtain ⟨k, hk, rfl, hno⟩ := hrel
    have Hno := Lib.hid hno
    clear hno
    by_cases hlt : k < len
    · obtain ⟨b, off, rfl, hb, hcap, hmax, hcell⟩ := Hp.out (by omega)
      have hc := hcell k hlt
      have hkl : k < ss.length := by have := Hlen.out; omega
      have hge : ss.getD k ByteArray.empty = ss[k] := by simp [List.getD, hkl]
      have hts := List.take_succ_eq_append_getElem hkl
      rw [← hge] at hts
      have hmem : ss.getD k ByteArray.empty ∈ ss := by rw [hge]; exact List.getElem_mem hkl
      unfold maxLen at hmax
      obtain ⟨y, hy⟩ : ∃ y, y = ss.getD k ByteArray.empty := ⟨_, rfl⟩
      rw [← hy] at hc hts hmem
      have Hts := Lib.hid hts
      have Hmem := Lib.hid hmem
      clear hy hts hge hcell hmem
      by_cases hxy : y = x
      · have h1 := beq_of hxy
        have hin : inB ss x = true := by rw [inB_iff, ← hxy]; exact Hmem.out
        have Hin := Lib.hid hin
        clear hin hxy
        go_wp2
        go_ret
        exact ⟨by rw [Hin.out]; rfl, rfl⟩
      · have h1 := beq_of_ne hxy
        have hnx : x ∉ ss.take (k + 1) := by
          rw [Hts.out, List.mem_append, List.mem_singleton, not_or]
          exact ⟨Hno.out, fun e => hxy e.symm⟩
        have Hnx := Lib.hid hnx
        clear hnx hxy
        go_wp2
        exact ⟨⟨k + 1, by omega, by go_num, Hnx.out⟩, by simp [intOf]; omega⟩
    · have hin : inB ss x = false := by
        have hno := Hno.out
        rw [List.take_of_length_le (by have := Hlen.out; omega)] at hno
        rw [inB_not]; exact hno
      have Hin := Lib.hid hin
      clear hin
      go_wp2
      go_ret
      exact ⟨by rw [Hin.out]; rfl, rfl⟩

end Go.Proofs.YtfkmijdpcenieaaDoor
