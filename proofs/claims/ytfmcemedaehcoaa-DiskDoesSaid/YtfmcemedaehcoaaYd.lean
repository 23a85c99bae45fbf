/- Same: two lists of texts held against each other. -/
import Derived.Test.YtfmcemedaehcoaaYc
namespace Go.Proofs.Ytfmcemedaehcoaa
set_option linter.unusedVariables false
set_option linter.unusedSimpArgs false
open Go.ChangeShapes Go.WideShapes Go.ChangeAt Go.RowKit Go.ChangeMaps

/-- v is a list of strings in memory: of none, or a row of cells. -/
def Strs (w : World) (v : Value) (ss : List ByteArray) : Prop :=
  ((∃ p cap, v = .slice p 0 cap) ∧ ss = []) ∨
  ∃ b off cap, v = .slice (some ⟨b, off, none⟩) ss.length cap ∧ ss.length ≤ cap ∧ cap ≤ maxLen ∧ b < w.heap.size ∧ ∀ i, i < ss.length → w.cell? ⟨b, off + i, none⟩ = some (.string (ss.getD i ByteArray.empty))

theorem Strs.below {w w' : World} {v : Value} {ss : List ByteArray} (h : Strs w v ss) (hB : Below w.heap.size w w') : Strs w' v ss := by
  rcases h with h | ⟨b, off, cap, hv, hl, hc, hb, hcell⟩
  · exact .inl h
  · exact .inr ⟨b, off, cap, hv, hl, hc, Nat.lt_of_lt_of_le hb hB.size, fun i hi => by rw [hB.cell (p := ⟨b, off + i, none⟩) hb]; exact hcell i hi⟩

theorem Strs.ofRow {w : World} {base : Nat} {v : Value} {ss : List ByteArray} {n : Nat} (h : w.ownsRow base 9 1 v n (ss.map Value.string)) : Strs w v ss := by
  have hlen : ss.length = n := by have := h.1; simpa using this
  rcases h.2 with ⟨hv, hn⟩ | ⟨g, cap, cur, hv, _, hg, hcap, hmax, hsz, htake⟩
  · exact .inl ⟨⟨_, _, hv⟩, List.eq_nil_of_length_eq_zero (by omega)⟩
  · refine .inr ⟨g, 0, cap, by rw [hlen]; exact hv, by omega, hmax, lt_of_block hg, fun i hi => ?_⟩
    rw [block_cell hg]
    have e : (cur.toList.take (n * 1))[i]? = (ss.map Value.string)[i]? := by rw [htake]
    rw [List.getElem?_take_of_lt (by omega), List.getElem?_map, List.getElem?_eq_getElem hi] at e
    simpa [List.getD, hi] using e

theorem toList_eq9 {x y : ByteArray} (h : (!x.toList == y.toList) = false) : x = y := by
  have : x.toList = y.toList := by simpa using h
  rw [Lib.toList_data, Lib.toList_data] at this
  exact ByteArray.ext (Array.toList_inj.1 this)

theorem toList_ne9 {x y : ByteArray} (h : (!x.toList == y.toList) = true) : x ≠ y := by
  rintro rfl
  simp at h

/-- Two rows of one length, held against each other. -/
def SameEnd (w : World) (a b : List ByteArray) (e : Ending) (w' : World) : Prop := e = .returned (.bool (decide (a = b))) ∧ ∃ k, w' = w.drewN k

set_option maxHeartbeats 400000 in
theorem same_rows (v u : Value) (a b : List ByteArray) (w : World) (hv : Strs w v a) (hu : Strs w u b) (hl : a.length = b.length) :
    Calls Try.prog 19 #[v, u] w (SameEnd w a b) := by
  rcases hv with ⟨⟨pz, cz, rfl⟩, rfl⟩ | ⟨b1, o1, c1, rfl, hc1, hm1, hb1, hcell1⟩
  · have : b = [] := by cases b with | nil => rfl | cons _ _ => simp at hl
    subst this
    rcases hu with ⟨⟨pz2, cz2, rfl⟩, _⟩ | ⟨b2, o2, c2, rfl, hc2, hm2, hb2, hcell2⟩
    all_goals
      go_enter Try.func19, Try.ntmps19
      go_wp2
      refine wp_loop_rounds 1 ?_
      rw [rounds_succ]
      go_wp2
      go_ret
      exact ⟨rfl, 0, rfl⟩
  · rcases hu with ⟨⟨pz2, cz2, rfl⟩, rfl⟩ | ⟨b2, o2, c2, rfl, hc2, hm2, hb2, hcell2⟩
    · have : a = [] := by cases a with | nil => rfl | cons _ _ => simp at hl
      subst this
      go_enter Try.func19, Try.ntmps19
      go_wp2
      refine wp_loop_rounds 1 ?_
      rw [rounds_succ]
      go_wp2
      go_ret
      exact ⟨rfl, 0, rfl⟩
    · rw [← hl] at hcell2 hc2 ⊢
      obtain ⟨len, hlen⟩ : ∃ len, len = a.length := ⟨_, rfl⟩
      rw [← hlen] at hcell1 hcell2 hc1 hc2 hl ⊢
      have Hlen := Lib.hid hlen
      have Hl := Lib.hid hl
      unfold maxLen at hm1 hm2
      clear hlen hl
      go_enter Try.func19, Try.ntmps19
      go_wp2
      go_loopw [5, 13] (fun _ i wr => ∃ k : Nat, k ≤ len ∧ i = .int .i64 k ∧ a.take k = b.take k ∧ ∃ j, wr = w.drewN j) (fun _ i _ => len - (intOf i).toNat)
      case atStart => exact ⟨0, by omega, rfl, by simp, 0, rfl⟩
      case round =>
        obtain ⟨k, hk, rfl, htk, j, rfl⟩ := hrel
        have Htk := Lib.hid htk
        clear htk
        by_cases hlt : k < len
        · have hx := hcell1 k hlt
          have hy := hcell2 k hlt
          have hkl : (k : Int) < (len : Int) := by omega
          have hk0 : 0 ≤ (k : Int) := by omega
          clear hcell1 hcell2
          obtain ⟨x, hxe⟩ : ∃ x, x = a.getD k ByteArray.empty := ⟨_, rfl⟩
          obtain ⟨y, hye⟩ : ∃ y, y = b.getD k ByteArray.empty := ⟨_, rfl⟩
          rw [← hxe] at hx
          rw [← hye] at hy
          have Hx := Lib.hid hxe
          have Hy := Lib.hid hye
          clear hxe hye
          go_wp2
          go_quiet (fail)
          go_wp2
          · rename_i hne
            go_ret
            refine ⟨?_, j + nq, by simp⟩
            have : a ≠ b := fun e => toList_ne9 hne (by rw [Hx.out, Hy.out, e])
            simp [this]
          · rename_i heq
            refine ⟨⟨k + 1, by omega, by go_num, ?_, _, rfl⟩, by simp [intOf]; omega⟩
            have h1 := toList_eq9 heq
            have h2 := Hlen.out
            have h3 := Hl.out
            rw [Hx.out, Hy.out, List.getD_eq_getElem?_getD, List.getD_eq_getElem?_getD, List.getElem?_eq_getElem (by omega), List.getElem?_eq_getElem (by omega)] at h1
            have e1 := List.take_succ_eq_append_getElem (l := a) (i := k) (by omega)
            have e2 := List.take_succ_eq_append_getElem (l := b) (i := k) (by omega)
            have h4 : a[k]'(by omega) = b[k]'(by omega) := by simpa using h1
            rw [e1, e2, Htk.out, h4]
        · obtain rfl : k = len := by omega
          clear hcell1 hcell2
          go_wp2
          go_ret
          refine ⟨?_, _, rfl⟩
          have h1 := Htk.out
          rw [Hlen.out, List.take_length, ← Hlen.out, Hl.out, List.take_length] at h1
          simp [h1]


end Go.Proofs.Ytfmcemedaehcoaa
