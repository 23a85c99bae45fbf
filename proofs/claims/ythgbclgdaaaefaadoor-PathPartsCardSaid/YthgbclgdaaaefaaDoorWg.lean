/- Walks: Under of both. -/
import Derived.Test.YthgbclgdaaaefaaDoorWf
namespace Go.Proofs.YthgbclgdaaaefaaDoor
set_option linter.unusedVariables false
open Go.ChangeShapes Go.WideShapes Go.ChangeAt Go.RowKit

theorem cutPre_any (s p : ByteArray) (w : World) : Calls Tryd.prog 33 #[.string s, .string p] w fun e w' => e = .returned (.tuple #[.string (mkB (Lib.trimPrefix s.data.toList p.data.toList)), .bool (Lib.hasPrefix s.data.toList p.data.toList)]) ∧ w = w' := by
  refine (Tryd.strings_CutPrefix s p w).mono ?_
  rintro e w' ⟨rfl, rfl⟩
  exact ⟨rfl, rfl⟩
/-- What a text's bytes tell a walk. -/
theorem some_facts {s : ByteArray} (h : some1 s = true) : (!s.toList.isEmpty) = true ∧ (s.toList == ([] : List UInt8)) = false := by
  refine ⟨toList_some s h, ?_⟩
  have := toList_empty s h
  rw [Lib.toList_data ⟨#[]⟩] at this
  exact this
theorem none_facts {s : ByteArray} (h : some1 s = false) : (!s.toList.isEmpty) = false ∧ (s.toList == ([] : List UInt8)) = true := by
  have e := empty_of s h
  exact ⟨by rw [e, Lib.toList_data]; rfl, by rw [e, Lib.toList_data]; rfl⟩
def Under2 (d p : ByteArray) (w : World) (e : Ending) (w' : World) : Prop := e = .returned (.tuple #[.string (underB d p).1, .bool (underB d p).2]) ∧ w = w'
theorem under2_of {d p : ByteArray} {r : ByteArray} {b : Bool} (h : underB d p = (r, b)) (w : World) : Under2 d p w (.returned (.tuple #[.string r, .bool b])) w := by
  unfold Under2; rw [h]; exact ⟨rfl, rfl⟩
theorem mkB_ne {l : List UInt8} (h : some1 (mkB l) = true) : l ≠ [] := by
  rintro rfl; exact absurd h (by decide)
theorem mkB_nil {l : List UInt8} (h : some1 (mkB l) = false) : l = [] := by
  have := empty_of _ h
  exact congrArg (fun x : ByteArray => x.data.toList) this

set_option maxHeartbeats 400000 in
theorem under_any (d p : ByteArray) (w : World) : Calls Tryd.prog 19 #[.string d, .string p] w (Under2 d p w) := by
  cases hd : some1 d with
  | false =>
    obtain ⟨d1, d2⟩ := none_facts hd
    cases hp : some1 p with
    | false =>
      obtain ⟨p1, p2⟩ := none_facts hp
      have Hu := Lib.hid (show underB d p = (p, false) by unfold underB; rw [hd, hp]; rfl)
      clear hd hp
      go_enter Tryd.func19, Tryd.ntmps19
      go_wp2_with fail
      go_ret2
      exact under2_of Hu.out w
    | true =>
      obtain ⟨p1, p2⟩ := some_facts hp
      have Hu := Lib.hid (show underB d p = (p, true) by unfold underB; rw [hd, hp]; rfl)
      clear hd hp
      go_enter Tryd.func19, Tryd.ntmps19
      go_wp2_with fail
      go_ret2
      exact under2_of Hu.out w
  | true =>
    obtain ⟨d1, d2⟩ := some_facts hd
    have hu : underB d p = (match underL d.data.toList p.data.toList with | some q => (mkB q, true) | none => (⟨#[]⟩, false)) := by unfold underB; rw [hd]; rfl
    have H1 := fun w1 => cutPre_any p d w1
    have H2 := fun w1 => cutPre_any (mkB (p.data.toList.drop d.data.toList.length)) ⟨#[47]⟩ w1
    cases h1 : Lib.hasPrefix p.data.toList d.data.toList with
    | false =>
      have Hu := Lib.hid (show underB d p = (⟨#[]⟩, false) by rw [hu]; unfold underL; rw [h1]; rfl)
      rw [h1] at H1
      have H1' := Lib.hid H1
      clear H1 H2 hu hd h1
      generalize mkB (Lib.trimPrefix p.data.toList d.data.toList) = r at *
      go_enter Tryd.func19, Tryd.ntmps19
      go_wp2_with fail
      refine (H1'.out _).mono ?_
      rintro e w1 ⟨rfl, rfl⟩
      go_wp2_with fail
      go_ret2
      exact under2_of Hu.out w
    | true =>
      have ht : Lib.trimPrefix p.data.toList d.data.toList = p.data.toList.drop d.data.toList.length := by unfold Lib.trimPrefix; rw [h1]; rfl
      rw [h1, ht] at H1
      rw [mkB_toList, show (⟨#[47]⟩ : ByteArray).data.toList = [47] from rfl] at H2
      cases h2 : Lib.hasPrefix (p.data.toList.drop d.data.toList.length) [47] with
      | false =>
        have Hu := Lib.hid (show underB d p = (⟨#[]⟩, false) by rw [hu]; unfold underL; rw [h1, h2]; rfl)
        rw [h2] at H2
        have H1' := Lib.hid H1
        have H2' := Lib.hid H2
        clear H1 H2 hu hd h1 ht h2
        generalize mkB (Lib.trimPrefix (p.data.toList.drop d.data.toList.length) [47]) = q at *
        generalize mkB (p.data.toList.drop d.data.toList.length) = r at *
        go_enter Tryd.func19, Tryd.ntmps19
        go_wp2_with fail
        refine (H1'.out _).mono ?_
        rintro e w1 ⟨rfl, rfl⟩
        go_wp2_with fail
        refine (H2'.out _).mono ?_
        rintro e w1 ⟨rfl, rfl⟩
        go_wp2_with fail
        go_ret2
        exact under2_of Hu.out w
      | true =>
        have ht2 : Lib.trimPrefix (p.data.toList.drop d.data.toList.length) [47] = (p.data.toList.drop d.data.toList.length).drop 1 := by unfold Lib.trimPrefix; rw [h2]; rfl
        rw [h2, ht2] at H2
        have H1' := Lib.hid H1
        have H2' := Lib.hid H2
        clear H1 H2
        cases hq : some1 (mkB ((p.data.toList.drop d.data.toList.length).drop 1)) with
        | false =>
          obtain ⟨q1, q2⟩ := none_facts hq
          have Hu := Lib.hid (show underB d p = (⟨#[]⟩, false) by rw [hu]; unfold underL; rw [if_pos h1, if_pos h2, if_pos (mkB_nil hq)])
          clear hu hd h1 ht h2 ht2 hq
          generalize mkB ((p.data.toList.drop d.data.toList.length).drop 1) = q at *
          generalize mkB (p.data.toList.drop d.data.toList.length) = r at *
          go_enter Tryd.func19, Tryd.ntmps19
          go_wp2_with fail
          refine (H1'.out _).mono ?_
          rintro e w1 ⟨rfl, rfl⟩
          go_wp2_with fail
          refine (H2'.out _).mono ?_
          rintro e w1 ⟨rfl, rfl⟩
          go_wp2_with fail
          go_ret2
          exact under2_of Hu.out w
        | true =>
          obtain ⟨q1, q2⟩ := some_facts hq
          have Hu := Lib.hid (show underB d p = (mkB ((p.data.toList.drop d.data.toList.length).drop 1), true) by rw [hu]; unfold underL; rw [if_pos h1, if_pos h2, if_neg (mkB_ne hq)])
          clear hu hd h1 ht h2 ht2 hq
          generalize mkB ((p.data.toList.drop d.data.toList.length).drop 1) = q at *
          generalize mkB (p.data.toList.drop d.data.toList.length) = r at *
          go_enter Tryd.func19, Tryd.ntmps19
          go_wp2_with fail
          refine (H1'.out _).mono ?_
          rintro e w1 ⟨rfl, rfl⟩
          go_wp2_with fail
          refine (H2'.out _).mono ?_
          rintro e w1 ⟨rfl, rfl⟩
          go_wp2_with fail
          go_ret2
          exact under2_of Hu.out w

theorem under_split (d p : ByteArray) (h1 : d.size + 1 < p.size) (h2 : p.extract 0 d.size = d) (h3 : p[d.size]'(by omega) = 47) : underL d.data.toList p.data.toList = some (p.extract (d.size + 1) p.size).data.toList := by
  rw [underL_iff]
  have hx : (p.extract (d.size + 1) p.size).data.toList = p.data.toList.drop (d.size + 1) := by
    rw [Lib.extract_data, List.take_of_length_le (by rw [List.length_drop, ba_len]; omega)]
  rw [hx]
  constructor
  · have hl : d.size < p.data.toList.length := by rw [ba_len]; omega
    have e1 : p.data.toList.take d.size = d.data.toList := by
      have := congrArg (fun x : ByteArray => x.data.toList) h2
      simp only [Lib.extract_data] at this
      simpa using this
    have e2 : p.data.toList[d.size]'hl = 47 := h3
    rw [← e1, ← e2, List.getElem_cons_drop, List.take_append_drop]
  · intro e
    have := congrArg List.length e
    rw [List.length_drop, ba_len] at this
    simp at this; omega
theorem under_no (d p : ByteArray) (h : ∀ (h1 : d.size + 1 < p.size), p.extract 0 d.size = d → p[d.size]'(by omega) = 47 → False) : underL d.data.toList p.data.toList = none := by
  apply underL_none
  intro q hq e
  have hs : p.size = d.size + (q.length + 1) := by
    have := congrArg List.length e
    rw [ba_len] at this
    rw [this, List.length_append, ba_len]; rfl
  have hl : 0 < q.length := List.length_pos_iff.2 hq
  refine h (by omega) ?_ ?_
  · apply ba_ext
    rw [Lib.extract_data, e, List.drop_zero, Nat.sub_zero, ← ba_len d, List.take_left]
  · have hl2 : d.size < p.data.toList.length := by rw [ba_len]; omega
    have e2 : p.data.toList[d.size]'hl2 = 47 := by
      have : p.data.toList[d.size]? = some 47 := by
        rw [e, List.getElem?_append_right (by rw [ba_len]; omega), ba_len]; simp
      exact (List.getElem?_eq_some_iff.1 this).2
    exact e2
set_option maxHeartbeats 400000 in
theorem refUnder_any (d p : ByteArray) (w : World) (hds : d.size ≤ 1073741824) (hps : p.size ≤ 1073741824) : Calls Tryd.prog 20 #[.string d, .string p] w (Under2 d p w) := by
  cases hd : some1 d with
  | false =>
    obtain ⟨d1, d2⟩ := none_facts hd
    cases hp : some1 p with
    | false =>
      obtain ⟨p1, p2⟩ := none_facts hp
      have Hu := Lib.hid (show underB d p = (p, false) by unfold underB; rw [hd, hp]; rfl)
      clear hd hp
      go_enter Tryd.func20, Tryd.ntmps20
      go_wp2_with fail
      go_ret2
      exact under2_of Hu.out w
    | true =>
      obtain ⟨p1, p2⟩ := some_facts hp
      have Hu := Lib.hid (show underB d p = (p, true) by unfold underB; rw [hd, hp]; rfl)
      clear hd hp
      go_enter Tryd.func20, Tryd.ntmps20
      go_wp2_with fail
      go_ret2
      exact under2_of Hu.out w
  | true =>
    obtain ⟨d1, d2⟩ := some_facts hd
    have hu : underB d p = (match underL d.data.toList p.data.toList with | some q => (mkB q, true) | none => (⟨#[]⟩, false)) := by unfold underB; rw [hd]; rfl
    clear hd
    by_cases h1 : d.size + 1 < p.size
    · have h1I : ¬ (p.size : Int) ≤ (d.size : Int) + 1 := by omega
      have hlt : d.size < p.size := by omega
      by_cases h2 : p.extract 0 d.size = d
      · have h2b := beq_of h2
        by_cases h3 : p[d.size]'hlt = 47
        · have h3b : (((p[d.size]'hlt).toNat : Int) == 47) = true := by rw [h3]; rfl
          have Hu := Lib.hid (show underB d p = (p.extract (d.size + 1) p.size, true) by rw [hu, under_split d p h1 h2 h3]; show (mkB _, true) = _; rw [mkB_data])
          clear hu h2 h3
          go_enter Tryd.func20, Tryd.ntmps20
          go_wp2_with fail
          go_ret2
          exact under2_of Hu.out w
        · have h3b : (((p[d.size]'hlt).toNat : Int) == 47) = false := by
            rw [beq_eq_false_iff_ne]; intro e; exact h3 (UInt8.toNat_inj.1 (by show _ = 47; omega))
          have Hu := Lib.hid (show underB d p = (⟨#[]⟩, false) by rw [hu, under_no d p (fun _ _ h => h3 h)])
          clear hu h2 h3
          go_enter Tryd.func20, Tryd.ntmps20
          go_wp2_with fail
          go_ret2
          exact under2_of Hu.out w
      · have h2b := beq_of_ne h2
        have Hu := Lib.hid (show underB d p = (⟨#[]⟩, false) by rw [hu, under_no d p (fun _ h _ => h2 h)])
        clear hu h2
        go_enter Tryd.func20, Tryd.ntmps20
        go_wp2_with fail
        go_ret2
        exact under2_of Hu.out w
    · have h1I : (p.size : Int) ≤ (d.size : Int) + 1 := by omega
      have Hu := Lib.hid (show underB d p = (⟨#[]⟩, false) by rw [hu, under_no d p (fun h _ _ => h1 h)])
      clear hu
      go_enter Tryd.func20, Tryd.ntmps20
      go_wp2_with fail
      go_ret2
      exact under2_of Hu.out w
end Go.Proofs.YthgbclgdaaaefaaDoor
