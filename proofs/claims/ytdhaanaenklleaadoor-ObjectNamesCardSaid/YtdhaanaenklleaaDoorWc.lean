/- Walks: bad, Split of both, whether a list has a bad part, Good of both. -/
import Derived.Test.YtdhaanaenklleaaDoorWb
import Derived.Test.YtdhaanaenklleaaDoorSh
namespace Go.Proofs.YtdhaanaenklleaaDoor
set_option linter.unusedVariables false
open Go.ChangeShapes Go.WideShapes Go.ChangeAt Go.RowKit

def zeroB (s : ByteArray) : Bool := decide (0 ≤ Lib.indexByte s.data.toList 0)
theorem zero_iff (s : ByteArray) : zeroB s = true ↔ (0 : UInt8) ∈ s.data.toList := by
  unfold zeroB
  rw [decide_eq_true_iff]
  constructor
  · intro h
    obtain ⟨o, ho⟩ : ∃ o : Nat, Lib.indexByte s.data.toList 0 = o := ⟨_, (Int.toNat_of_nonneg h).symm⟩
    have := (Lib.indexByte_some ho).1
    exact List.mem_of_getElem? this
  · intro h
    have h1 := Lib.indexByte_ge s.data.toList 0
    by_cases e : Lib.indexByte s.data.toList 0 = -1
    · obtain ⟨k, hk, he⟩ := List.getElem_of_mem h
      exact absurd (by rw [List.getElem?_eq_getElem hk, he]) (Lib.indexByte_none e k)
    · omega
def badB (s : ByteArray) : Bool := !(dotB s) || zeroB s
theorem part_bad (x : ByteArray) (h : (47 : UInt8) ∉ x.data.toList) : partB x = !(badB x) := by
  have e : cleanB x = !(zeroB x) := by
    rw [Bool.eq_iff_iff, Bool.not_eq_true', Bool.eq_false_iff, ne_eq, zero_iff]
    unfold cleanB
    rw [List.all_eq_true]
    constructor
    · intro ha hm
      have := ha 0 hm
      simp at this
    · intro hn c hc
      have h1 : c ≠ 0 := fun e => hn (e ▸ hc)
      have h2 : c ≠ 47 := fun e => h (e ▸ hc)
      simp [h1, h2]
  unfold partB badB
  rw [e]
  cases zeroB x <;> cases dotB x <;> rfl

theorem contains_any (s : ByteArray) (w : World) : Calls Tryd.prog 103 #[.string s, .string ⟨#[0]⟩] w fun e w' => e = .returned (.bool (zeroB s)) ∧ w = w' := by
  refine (Tryd.strings_Contains_one s 0 w).mono ?_
  rintro e w' ⟨rfl, rfl⟩
  exact ⟨rfl, rfl⟩

set_option maxRecDepth 100000 in
set_option maxHeartbeats 400000 in
theorem bad_any (s : ByteArray) (w : World) : Calls Tryd.prog 79 #[.string s] w fun e w' => e = .returned (.bool (badB s)) ∧ w = w' := by
  cases hs1 : some1 s with
  | false =>
    have e := empty_of s hs1
    have Hd := Lib.hid (show badB s = true by unfold badB dotB; rw [hs1]; rfl)
    have h1 : (!s.toList.isEmpty) = false := by rw [e, Lib.toList_data]; rfl
    have h2 : (s.toList == ([] : List UInt8)) = true := by rw [e, Lib.toList_data]; rfl
    clear e hs1
    go_enter Tryd.func79, Tryd.ntmps79
    go_wp2_with fail
    go_ret
    exact ⟨by rw [Hd.out]; rfl, rfl⟩
  | true =>
    have n1 := toList_some s hs1
    have n2 : (s.toList == ([] : List UInt8)) = false := by
      have := toList_empty s hs1
      rw [Lib.toList_data ⟨#[]⟩] at this
      exact this
    cases hd1 : (s.toList == ([46] : List UInt8)) with
    | true =>
      have Hd := Lib.hid (show badB s = true by unfold badB dotB; rw [hs1, hd1]; rfl)
      clear hs1
      go_enter Tryd.func79, Tryd.ntmps79
      go_wp2_with fail
      go_ret
      exact ⟨by rw [Hd.out]; rfl, rfl⟩
    | false =>
      cases hd2 : (s.toList == ([46, 46] : List UInt8)) with
      | true =>
        have Hd := Lib.hid (show badB s = true by unfold badB dotB; rw [hs1, hd1, hd2]; rfl)
        clear hs1
        go_enter Tryd.func79, Tryd.ntmps79
        go_wp2_with fail
        go_ret
        exact ⟨by rw [Hd.out]; rfl, rfl⟩
      | false =>
        have Hd := Lib.hid (show badB s = zeroB s by unfold badB dotB; rw [hs1, hd1, hd2]; rfl)
        have HC := Lib.hid (fun w1 => contains_any s w1)
        clear hs1
        generalize zeroB s = z at *
        go_enter Tryd.func79, Tryd.ntmps79
        go_wp2_with fail
        refine (HC.out _).mono ?_
        rintro e w1 ⟨rfl, rfl⟩
        go_wp2_with fail
        go_ret
        exact ⟨by rw [Hd.out]; rfl, rfl⟩

def splitL (p : ByteArray) : List ByteArray := if some1 p then cutB 47 p else []
theorem row_of_alloc (L : List ByteArray) (w : World) (hm : L.length ≤ maxLen) : (w.alloc (.cells (L.map Value.string).toArray 9)).ownsRow w.heap.size 9 1 (.slice (some ⟨w.heap.size, 0, none⟩) L.length L.length) L.length (L.map Value.string) := by
  refine ⟨by simp, .inr ⟨w.heap.size, L.length, (L.map Value.string).toArray, rfl, Nat.le_refl _, ?_, Nat.le_refl _, hm, by simp, by rw [Nat.mul_one]; exact List.take_of_length_le (by simp)⟩⟩
  show (w.heap.push _)[w.heap.size]? = _
  simp
theorem split_own (s : ByteArray) (m : Int) (w : World) (hs : s.size ≤ 1073741824) (hm : w.cell? ⟨1, 0, none⟩ = some (.int .i64 m)) :
    Calls Tryd.prog 80 #[.string s, .string ⟨#[47]⟩] w fun e w' => ∃ v, e = .returned v ∧ w'.ownsRow w.heap.size 9 1 v (cutB 47 s).length ((cutB 47 s).map Value.string) ∧ Below w.heap.size w w' := by
  refine (Tryd.strings_Split s (mkB [47]) m w (by omega) hm (by decide)).mono ?_
  rintro e w' ⟨rfl, rfl⟩
  rw [splitB_cut, ← cutB_len]
  have hl := cnt_len (cutB 47 s)
  rw [cutB_cnt] at hl
  exact ⟨_, rfl, row_of_alloc _ _ (by unfold maxLen; omega), (Below.refl _ w).alloc (Nat.le_refl _) _⟩

theorem psplit_any (s : ByteArray) (m : Int) (w : World) (hs : s.size ≤ 1073741824) (hm : w.cell? ⟨1, 0, none⟩ = some (.int .i64 m)) :
    Calls Tryd.prog 50 #[.string s] w fun e w' => ∃ v, e = .returned v ∧ w'.ownsRow w.heap.size 9 1 v (splitL s).length ((splitL s).map Value.string) ∧ Below w.heap.size w w' := by
  unfold splitL
  have HS := Lib.hid (fun (w1 : World) (h : w1 = w) => h ▸ split_own s m w hs hm)
  cases hs1 : some1 s with
  | false =>
    have e := empty_of s hs1
    have h1 : (!s.toList.isEmpty) = false := by rw [e, Lib.toList_data]; rfl
    have h2 : (s.toList == ([] : List UInt8)) = true := by rw [e, Lib.toList_data]; rfl
    clear e hs1
    go_enter Tryd.func50, Tryd.ntmps50
    go_wp2_with fail
    go_ret
    exact ⟨_, rfl, World.ownsRow_nil _ _ _ _, Below.refl _ _⟩
  | true =>
    have n1 := toList_some s hs1
    have n2 : (s.toList == ([] : List UInt8)) = false := by
      have := toList_empty s hs1
      rw [Lib.toList_data ⟨#[]⟩] at this
      exact this
    clear hs1
    rw [if_pos rfl]
    go_enter Tryd.func50, Tryd.ntmps50
    go_wp2_with fail
    refine (HS.out _ rfl).mono ?_
    rintro e w1 ⟨v, rfl, hv, hB⟩
    go_wp2_with fail
    go_ret
    exact ⟨_, rfl, hv, hB⟩
theorem rsplit_any (s : ByteArray) (w : World) (hs : s.size ≤ 1073741824) :
    Calls Tryd.prog 99 #[.string s] w fun e w' => ∃ v, e = .returned v ∧ w'.ownsRow w.heap.size 9 1 v (splitL s).length ((splitL s).map Value.string) ∧ Below w.heap.size w w' := by
  unfold splitL
  have HS := Lib.hid (fun (w1 : World) => parts_own s w1 hs)
  cases hs1 : some1 s with
  | false =>
    have e := empty_of s hs1
    have h1 : (!s.toList.isEmpty) = false := by rw [e, Lib.toList_data]; rfl
    have h2 : (s.toList == ([] : List UInt8)) = true := by rw [e, Lib.toList_data]; rfl
    clear e hs1
    go_enter Tryd.func99, Tryd.ntmps99
    go_wp2_with fail
    go_ret
    exact ⟨_, rfl, World.ownsRow_nil _ _ _ _, Below.refl _ _⟩
  | true =>
    have n1 := toList_some s hs1
    have n2 : (s.toList == ([] : List UInt8)) = false := by
      have := toList_empty s hs1
      rw [Lib.toList_data ⟨#[]⟩] at this
      exact this
    clear hs1
    rw [if_pos rfl]
    go_enter Tryd.func99, Tryd.ntmps99
    go_wp2_with fail
    refine (HS.out _).mono ?_
    rintro e w1 ⟨v, rfl, hv, hB⟩
    go_wp2_with fail
    go_ret
    exact ⟨_, rfl, hv, hB⟩
end Go.Proofs.YtdhaanaenklleaaDoor
