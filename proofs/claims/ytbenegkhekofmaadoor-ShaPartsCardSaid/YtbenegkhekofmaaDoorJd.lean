/- Walks: lists of strings: whether two are the same; whether one is great. -/
import Derived.Test.YtbenegkhekofmaaDoorJc
namespace Go.Proofs.YtbenegkhekofmaaDoor
open Go.ChangeShapes Go.WideShapes Go.ChangeAt Go.RowKit

/-- How many bytes texts have in all. -/
def total : List ByteArray → Nat | [] => 0 | s :: r => s.size + total r
theorem total_append (a b : List ByteArray) : total (a ++ b) = total a + total b := by
  induction a with
  | nil => simp [total]
  | cons s r ih => simp [total, ih]; omega

theorem total_take (ss : List ByteArray) (k : Nat) (h : k < ss.length) : total (ss.take (k + 1)) = total (ss.take k) + (ss.getD k ByteArray.empty).size := by
  rw [List.take_succ_eq_append_getElem h, total_append]
  simp [total, List.getD, h]

theorem total_mono (ss : List ByteArray) (k m : Nat) (h : k ≤ m) (hm : m ≤ ss.length) : total (ss.take k) ≤ total (ss.take m) := by
  induction m with
  | zero => have : k = 0 := by omega
            subst this; exact Nat.le_refl _
  | succ m ih =>
    by_cases e : k = m + 1
    · subst e; exact Nat.le_refl _
    · have := ih (by omega) (by omega)
      rw [total_take ss m (by omega)]
      omega

set_option maxHeartbeats 400000 in
theorem great_no (v : Value) (ss : List ByteArray) (w : World) (hv : Strs w v ss) (ht : total ss ≤ 8192) (hl : ss.length ≤ 200) :
    Calls Tryd.prog 11 #[v] w fun e w' => e = .returned (.bool false) ∧ w = w' := by
  rcases hv with ⟨⟨pz, cz, rfl⟩, rfl⟩ | ⟨b, off, cap, rfl, hcap, hmax, hb, hcell⟩
  · go_enter Tryd.func11, Tryd.ntmps11
    go_wp2
    refine wp_loop_rounds 1 ?_
    rw [rounds_succ]
    go_wp2
    go_ret
    exact ⟨rfl, rfl⟩
  · obtain ⟨len, hlen⟩ : ∃ len, len = ss.length := ⟨_, rfl⟩
    rw [← hlen] at hcap hl hcell ⊢
    have Hlen := Lib.hid hlen
    clear hlen
    go_enter Tryd.func11, Tryd.ntmps11
    go_wp2
    go_loop [3, 5, 8] (fun n _ i => ∃ k : Nat, k ≤ len ∧ i = .int .i64 k ∧ n = .int .i64 (total (ss.take k))) (fun _ _ i => len - (intOf i).toNat)
    case atStart => exact ⟨0, by omega, rfl, rfl⟩
    case round =>
      obtain ⟨k, hk, rfl, rfl⟩ := hrel
      by_cases hlt : k < len
      · have hc := hcell k hlt
        have hts := total_take ss k (by have := Hlen.out; omega)
        have htm := total_mono ss (k + 1) ss.length (by have := Hlen.out; omega) (Nat.le_refl _)
        rw [List.take_length] at htm
        have Hts := Lib.hid hts
        obtain ⟨s, hs⟩ : ∃ s, s = ss.getD k ByteArray.empty := ⟨_, rfl⟩
        rw [← hs] at hc hts
        have h1 : total (ss.take k) + s.size ≤ 8192 := by omega
        have Hs := Lib.hid hs
        clear hs hts htm hcell
        generalize total (ss.take k) = q at *
        go_wp2
        exact ⟨⟨k + 1, by omega, by go_num, by rw [Hts.out, ← Hs.out]; go_num⟩, by simp [intOf]; omega⟩
      · obtain rfl : k = len := by omega
        have hd : decide (200 < (k : Int)) = false := by simp; omega
        go_wp2
        go_ret
        exact ⟨rfl, rfl⟩

set_option maxHeartbeats 400000 in
theorem great_yes (v : Value) (ss : List ByteArray) (w : World) (hv : Strs w v ss) (hz : ∀ s ∈ ss, s.size ≤ 140737488351232) (ht : 8192 < total ss ∨ 200 < ss.length) :
    Calls Tryd.prog 11 #[v] w fun e w' => e = .returned (.bool true) ∧ w = w' := by
  rcases hv with ⟨⟨pz, cz, rfl⟩, rfl⟩ | ⟨b, off, cap, rfl, hcap, hmax, hb, hcell⟩
  · simp [total] at ht
  · obtain ⟨len, hlen⟩ : ∃ len, len = ss.length := ⟨_, rfl⟩
    have hend : total (ss.take len) = total ss := by rw [hlen, List.take_length]
    rw [← hend] at ht
    clear hend
    rw [← hlen] at hcap ht hcell ⊢
    have Hlen := Lib.hid hlen
    have Hz := Lib.hid hz
    unfold maxLen at hmax
    clear hlen hz
    go_enter Tryd.func11, Tryd.ntmps11
    go_wp2
    go_loop [3, 5, 8] (fun n _ i => ∃ k : Nat, k ≤ len ∧ i = .int .i64 k ∧ n = .int .i64 (total (ss.take k)) ∧ total (ss.take k) ≤ 8192) (fun _ _ i => len - (intOf i).toNat)
    case atStart => exact ⟨0, by omega, rfl, rfl, by simp [total]⟩
    case round =>
      obtain ⟨k, hk, rfl, rfl, hq⟩ := hrel
      by_cases hlt : k < len
      · have hc := hcell k hlt
        have hts := total_take ss k (by have := Hlen.out; omega)
        have Hts := Lib.hid hts
        obtain ⟨s, hs⟩ : ∃ s, s = ss.getD k ByteArray.empty := ⟨_, rfl⟩
        rw [← hs] at hc
        have hsz : s.size ≤ 140737488351232 := Hz.out s (by have := Hlen.out; rw [hs, List.getD_eq_getElem?_getD, List.getElem?_eq_getElem (by omega)]; simp)
        have Hs := Lib.hid hs
        clear hs hts hcell ht
        generalize hqq : total (ss.take k) = q at *
        clear hqq
        by_cases h1 : 8192 < q + s.size
        · have h2 : decide ((8192 : Int) < (q : Int) + (s.size : Int)) = true := by simp; omega
          go_wp2
          go_ret
          exact ⟨rfl, rfl⟩
        · have h2 : decide ((8192 : Int) < (q : Int) + (s.size : Int)) = false := by simp; omega
          go_wp2
          exact ⟨⟨k + 1, by omega, by go_num, by rw [Hts.out, ← Hs.out]; go_num, by rw [Hts.out, ← Hs.out]; omega⟩, by simp [intOf]; omega⟩
      · obtain rfl : k = len := by omega
        have h3 : 200 < k := by omega
        have hd : decide (200 < (k : Int)) = true := by simp; omega
        clear ht
        go_wp2
        go_ret
        exact ⟨rfl, rfl⟩

set_option maxHeartbeats 400000 in
theorem same_len (v u : Value) (a b : List ByteArray) (w : World) (hv : Strs w v a) (hu : Strs w u b) (hl : a.length ≠ b.length) (ha : a.length ≤ 9223372036854775807) (hb : b.length ≤ 9223372036854775807) :
    Calls Tryd.prog 15 #[v, u] w fun e w' => e = .returned (.bool false) ∧ w = w' := by
  obtain ⟨p, hp⟩ : ∃ p c, v = .slice p a.length c := by
    rcases hv with ⟨⟨pz, cz, rfl⟩, rfl⟩ | ⟨b, off, cap, rfl, _⟩
    · exact ⟨_, _, rfl⟩
    · exact ⟨_, _, rfl⟩
  obtain ⟨q, hq⟩ : ∃ p c, u = .slice p b.length c := by
    rcases hu with ⟨⟨pz2, cz2, rfl⟩, rfl⟩ | ⟨b, off, cap, rfl, _⟩
    · exact ⟨_, _, rfl⟩
    · exact ⟨_, _, rfl⟩
  obtain ⟨c, rfl⟩ := hp
  obtain ⟨d, rfl⟩ := hq
  clear hv hu
  generalize a.length = m at *
  generalize b.length = n at *
  have h1 : ((m : Int) != (n : Int)) = true := by rw [bne_iff_ne]; omega
  go_enter Tryd.func15, Tryd.ntmps15
  go_wp2
  go_ret
  exact ⟨rfl, rfl⟩

theorem toList_eq {x y : ByteArray} (h : (!x.toList == y.toList) = false) : x = y := by
  have : x.toList = y.toList := by simpa using h
  rw [Lib.toList_data, Lib.toList_data] at this
  exact ByteArray.ext (Array.toList_inj.1 this)

theorem toList_ne {x y : ByteArray} (h : (!x.toList == y.toList) = true) : x ≠ y := by
  rintro rfl
  simp at h

/-- Two rows of one length, held against each other. -/
def SameEnd (w : World) (a b : List ByteArray) (e : Ending) (w' : World) : Prop := e = .returned (.bool (decide (a = b))) ∧ ∃ k, w' = w.drewN k

set_option maxHeartbeats 400000 in
theorem same_rows (v u : Value) (a b : List ByteArray) (w : World) (hv : Strs w v a) (hu : Strs w u b) (hl : a.length = b.length) :
    Calls Tryd.prog 15 #[v, u] w (SameEnd w a b) := by
  rcases hv with ⟨⟨pz, cz, rfl⟩, rfl⟩ | ⟨b1, o1, c1, rfl, hc1, hm1, hb1, hcell1⟩
  · have : b = [] := by cases b with | nil => rfl | cons _ _ => simp at hl
    subst this
    rcases hu with ⟨⟨pz2, cz2, rfl⟩, _⟩ | ⟨b2, o2, c2, rfl, hc2, hm2, hb2, hcell2⟩
    all_goals
      go_enter Tryd.func15, Tryd.ntmps15
      go_wp2
      refine wp_loop_rounds 1 ?_
      rw [rounds_succ]
      go_wp2
      go_ret
      exact ⟨rfl, 0, rfl⟩
  · rcases hu with ⟨⟨pz2, cz2, rfl⟩, rfl⟩ | ⟨b2, o2, c2, rfl, hc2, hm2, hb2, hcell2⟩
    · have : a = [] := by cases a with | nil => rfl | cons _ _ => simp at hl
      subst this
      go_enter Tryd.func15, Tryd.ntmps15
      go_wp2
      refine wp_loop_rounds 1 ?_
      rw [rounds_succ]
      go_wp2
      go_ret
      exact ⟨rfl, 0, rfl⟩
    · rw [← hl] at hcell2 hc2 ⊢
      obtain ⟨len, hlen⟩ : ∃ len, len = a.length := ⟨_, rfl⟩
      rw [← hlen] at hcell1 hcell2 hc1 hc2 hl ⊢
      have Hlen := Lib.hid hlen
      have Hl := Lib.hid hl
      unfold maxLen at hm1 hm2
      clear hlen hl
      go_enter Tryd.func15, Tryd.ntmps15
      go_wp2
      go_loopw [5, 13] (fun _ i wr => ∃ k : Nat, k ≤ len ∧ i = .int .i64 k ∧ a.take k = b.take k ∧ ∃ j, wr = w.drewN j) (fun _ i _ => len - (intOf i).toNat)
      case atStart => exact ⟨0, by omega, rfl, by simp, 0, rfl⟩
      case round =>
        obtain ⟨k, hk, rfl, htk, j, rfl⟩ := hrel
        have Htk := Lib.hid htk
        clear htk
        by_cases hlt : k < len
        · have hx := hcell1 k hlt
          have hy := hcell2 k hlt
          have hkl : (k : Int) < (len : Int) := by omega
          have hk0 : 0 ≤ (k : Int) := by omega
          clear hcell1 hcell2
          obtain ⟨x, hxe⟩ : ∃ x, x = a.getD k ByteArray.empty := ⟨_, rfl⟩
          obtain ⟨y, hye⟩ : ∃ y, y = b.getD k ByteArray.empty := ⟨_, rfl⟩
          rw [← hxe] at hx
          rw [← hye] at hy
          have Hx := Lib.hid hxe
          have Hy := Lib.hid hye
          clear hxe hye
          go_wp2
          go_quiet (fail)
          go_wp2
          · rename_i hne
            go_ret
            refine ⟨?_, j + nq, by simp⟩
            have : a ≠ b := fun e => toList_ne hne (by rw [Hx.out, Hy.out, e])
            simp [this]
          · rename_i heq
            refine ⟨⟨k + 1, by omega, by go_num, ?_, _, rfl⟩, by simp [intOf]; omega⟩
            have h1 := toList_eq heq
            have h2 := Hlen.out
            have h3 := Hl.out
            rw [Hx.out, Hy.out, List.getD_eq_getElem?_getD, List.getD_eq_getElem?_getD, List.getElem?_eq_getElem (by omega), List.getElem?_eq_getElem (by omega)] at h1
            have e1 := List.take_succ_eq_append_getElem (l := a) (i := k) (by omega)
            have e2 := List.take_succ_eq_append_getElem (l := b) (i := k) (by omega)
            have h4 : a[k]'(by omega) = b[k]'(by omega) := by simpa using h1
            rw [e1, e2, Htk.out, h4]
        · obtain rfl : k = len := by omega
          clear hcell1 hcell2
          go_wp2
          go_ret
          refine ⟨?_, _, rfl⟩
          have h1 := Htk.out
          rw [Hlen.out, List.take_length, ← Hlen.out, Hl.out, List.take_length] at h1
          simp [h1]
end Go.Proofs.YtbenegkhekofmaaDoor
