/- Walks: the program's Parse; alive. -/
import Derived.Test.YtpibehfmbmincaaGreatDoorWg
namespace Go.Proofs.YtpibehfmbmincaaGreatDoor
set_option linter.unusedVariables false
open Go.ChangeShapes Go.WideShapes Go.ChangeAt Go.RowKit

def ors0 (s : ByteArray) : Rs := lvl (8 * s.size + 5) .ors ⟨s.data.toList, [], 0⟩
def parseR (s : ByteArray) : List ByteArray × Int :=
  if 1024 < s.size then ([], 3) else match ors0 s with
  | .err c => ([], errC c)
  | .ok t => if t.rest = [] then (t.parts, 0) else ([], 4)
def Parsed (r : List ByteArray × Int) (w : World) (e : Ending) (w' : World) : Prop := ∃ v, e = .returned (.tuple #[v, .int .i64 r.2]) ∧ Strs w' v r.1 ∧ Below w.heap.size w w'
theorem strs_nil (w : World) : Strs w (.slice none 0 0) [] := .inl ⟨⟨_, _, rfl⟩, rfl⟩
theorem Rd.strs {base b : Nat} {s : St} {w : World} (h : Rd base b s w) : ∃ pv, w.cell? ⟨b, 1, none⟩ = some pv ∧ Strs w pv s.parts := by
  obtain ⟨h0, pv, h1, h2, h3⟩ := h
  exact ⟨pv, (block_cell h1 1).trans rfl, Strs.ofRow h2⟩

set_option maxHeartbeats 1000000 in
theorem parse_any (s : ByteArray) (w : World) (hs : s.size ≤ 140737488351232) : Calls Tryz.prog 45 #[.string s] w (Parsed (parseR s) w) := by
  by_cases hle : 1024 < s.size
  · have hleI : ¬ (s.size : Int) ≤ 1024 := by omega
    have He := Lib.hid (show parseR s = ([], 3) by unfold parseR; rw [if_pos hle])
    clear hle
    go_enter Tryz.func45, Tryz.ntmps45
    go_wp2_with fail
    go_ret2
    rw [He.out]
    exact ⟨_, rfl, strs_nil _, Below.refl _ _⟩
  · have hleI : (s.size : Int) ≤ 1024 := by omega
    have hnf := (lvl_small (8 * s.size + 5) .ors ⟨s.data.toList, [], 0⟩ (by simp only [rank, ba_len]; omega)).1
    have hR0 : ∀ w1, w1 = w.alloc (.cells #[.string s, .slice none 0 0, .int .i64 0] 88) → Rd w.heap.size w.heap.size ⟨s.data.toList, [], 0⟩ w1 := by
      rintro w1 rfl
      refine ⟨Nat.le_refl _, .slice none 0 0, ?_, World.ownsRow_nil _ _ _ _, by simp [Value.ownBlock]⟩
      simp only [mkB_data]
      show (w.heap.push _)[w.heap.size]? = _
      simp
    have HC := Lib.hid (fun w1 h1 => (show Calls Tryz.prog 60 _ _ _ from (all_co (8 * s.size + 5)).2.2.2 w.heap.size w.heap.size ⟨s.data.toList, [], 0⟩ w1 (hR0 w1 h1) ⟨by simp only [List.length_nil, ba_len]; omega, by simp⟩ hnf))
    have hp : parseR s = match ors0 s with | .err c => ([], errC c) | .ok t => if t.rest = [] then (t.parts, 0) else ([], 4) := by unfold parseR; rw [if_neg hle]
    unfold ors0 at hp
    cases ha : lvl (8 * s.size + 5) .ors ⟨s.data.toList, [], 0⟩ with
    | err c =>
      rw [ha] at hnf HC hp
      have hcf : c ≠ .fuel := fun h => hnf (by rw [h])
      have He := Lib.hid (show parseR s = ([], errC c) from hp)
      obtain ⟨v0, hv0, hvn⟩ := errC_ne hcf
      have Hv0 := Lib.hid hv0
      clear hle hnf hR0 hp ha hcf hv0
      go_enter Tryz.func45, Tryz.ntmps45
      go_wp2_with fail
      refine (HC.out _ rfl).mono ?_
      rintro e w1 ⟨v, rfl, hv, hB⟩
      obtain rfl : v = v0 := hv.trans Hv0.out
      clear hv
      go_wp2_with fail
      go_ret2
      rw [He.out]
      exact ⟨_, by rw [Hv0.out]; rfl, strs_nil _, ((Below.refl _ w).alloc (Nat.le_refl _) _).trans hB⟩
    | ok t =>
      rw [ha] at hnf HC hp
      simp only at hp
      by_cases hr : t.rest = []
      · rw [if_pos hr] at hp
        have He := Lib.hid hp
        have hz1 : (!(mkB t.rest).toList.isEmpty) = false := by rw [hr, Lib.toList_data]; rfl
        have hz2 : ((mkB t.rest).toList == ([] : List UInt8)) = true := by rw [hr, Lib.toList_data]; rfl
        clear hle hnf hR0 hp ha hr
        generalize hq : mkB t.rest = q at *
        have Hq := Lib.hid hq
        clear hq
        go_enter Tryz.func45, Tryz.ntmps45
        go_wp2_with fail
        refine (HC.out _ rfl).mono ?_
        rintro e w1 ⟨v, rfl, ⟨rfl, hR⟩, hB⟩
        have hc0 := hR.cells.1
        rw [Hq.out] at hc0
        obtain ⟨pv, hc1, hst⟩ := hR.strs
        have HB := Lib.hid (((Below.refl _ w).alloc (Nat.le_refl _) (Obj.cells #[.string s, .slice none 0 0, .int .i64 0] 88)).trans hB)
        have Hst := Lib.hid hst
        clear hR hst hB
        go_wp2_with fail
        go_ret2
        rw [He.out]
        exact ⟨_, rfl, Hst.out, HB.out⟩
      · rw [if_neg hr] at hp
        have He := Lib.hid hp
        have hs1 : some1 (mkB t.rest) = true := by
          unfold some1
          rw [mkB_size, beq_false_of_ne (by intro e; exact hr (List.eq_nil_of_length_eq_zero e))]; rfl
        obtain ⟨hz1, hz2⟩ := some_facts hs1
        clear hle hnf hR0 hp ha hr hs1
        generalize hq : mkB t.rest = q at *
        have Hq := Lib.hid hq
        clear hq
        go_enter Tryz.func45, Tryz.ntmps45
        go_wp2_with fail
        refine (HC.out _ rfl).mono ?_
        rintro e w1 ⟨v, rfl, ⟨rfl, hR⟩, hB⟩
        have hc0 := hR.cells.1
        rw [Hq.out] at hc0
        have HB := Lib.hid (((Below.refl _ w).alloc (Nat.le_refl _) (Obj.cells #[.string s, .slice none 0 0, .int .i64 0] 88)).trans hB)
        clear hR hB
        go_wp2_with fail
        go_ret2
        rw [He.out]
        exact ⟨_, rfl, strs_nil _, HB.out⟩
end Go.Proofs.YtpibehfmbmincaaGreatDoor
