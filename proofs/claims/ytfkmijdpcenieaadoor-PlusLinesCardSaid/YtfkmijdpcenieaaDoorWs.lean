/- Walks: the document's Parse; the law ExprParses. -/
import Derived.Test.YtfkmijdpcenieaaDoorWr
namespace Go.Proofs.YtfkmijdpcenieaaDoor
set_option linter.unusedVariables false
open Go.ChangeShapes Go.WideShapes Go.ChangeAt Go.RowKit

theorem pieces_small : ∀ (k : Nat) (l : List UInt8), l.length ≤ k → (pieces l).length ≤ l.length ∧ ∀ x ∈ pieces l, x.size ≤ l.length := by
  intro k
  induction k with
  | zero =>
    intro l h
    have : l = [] := List.eq_nil_of_length_eq_zero (by omega)
    subst this; exact ⟨Nat.le_refl _, fun x hx => by cases hx⟩
  | succ k ih =>
    intro l h
    cases l with
    | nil => exact ⟨Nat.le_refl _, fun x hx => by cases hx⟩
    | cons a r =>
      simp only [List.length_cons] at h
      rw [pieces_cons]
      have wide : ∀ (y : ByteArray) (q : List UInt8), q.length ≤ r.length → y.size ≤ r.length + 1 → (y :: pieces q).length ≤ (a :: r).length ∧ ∀ x ∈ y :: pieces q, x.size ≤ (a :: r).length := by
        intro y q hq hy
        obtain ⟨h1, h2⟩ := ih q (by omega)
        refine ⟨by simp only [List.length_cons]; omega, fun x hx => ?_⟩
        simp only [List.length_cons]
        rcases List.mem_cons.1 hx with rfl | hx
        · exact hy
        · have := h2 x hx; omega
      by_cases hb : blank a = true
      · rw [if_pos hb]
        obtain ⟨h1, h2⟩ := ih r (by omega)
        exact ⟨by simp only [List.length_cons]; omega, fun x hx => by have := h2 x hx; simp only [List.length_cons]; omega⟩
      · rw [if_neg hb]
        by_cases ht : tagC a = true
        · rw [if_pos ht]
          exact wide _ _ (by rw [List.length_drop]; omega) (by rw [mkB_size]; have := (List.takeWhile_prefix (p := tagC) (l := a :: r)).length_le; simpa using this)
        · rw [if_neg ht]
          by_cases hs : a = 33 ∨ a = 40 ∨ a = 41
          · rw [if_pos hs]
            exact wide _ _ (Nat.le_refl _) (by rw [mkB_size]; simp)
          · rw [if_neg hs]
            have one : ([noneB] : List ByteArray).length ≤ (a :: r).length ∧ ∀ x ∈ [noneB], x.size ≤ (a :: r).length := by
              refine ⟨by simp, fun x hx => ?_⟩
              rw [List.mem_singleton.1 hx]; exact Nat.zero_le _
            cases r with
            | nil => exact one
            | cons d q =>
              simp only
              split
              · exact wide _ _ (by simp) (by rw [mkB_size]; simp)
              · exact one
theorem Low.shape {base : Nat} {w : World} {v : Value} {l : List ByteArray} (h : Low base w v l) : ∃ p cap, v = .slice p l.length cap := by
  rcases h with ⟨p, cap, h, rfl⟩ | ⟨g, off, cap, hv, _⟩
  · exact ⟨p, cap, h⟩
  · exact ⟨_, cap, hv⟩
theorem Low.ofStrs {w w' : World} {v : Value} {l : List ByteArray} (h : Strs w v l) (hB : Below w.heap.size w w') : Low w.heap.size w' v l := by
  rcases h with ⟨⟨p, cap, rfl⟩, rfl⟩ | ⟨g, off, cap, rfl, h1, h2, h3, h4⟩
  · exact .inl ⟨p, cap, rfl, rfl⟩
  · exact .inr ⟨g, off, cap, rfl, h1, h2, h3, fun i hi => by rw [hB.cell (p := ⟨g, off + i, none⟩) h3]; exact h4 i hi⟩
theorem RdP.start {w1 : World} {lv : Value} {l : List ByteArray} (h : Strs w1 lv l) : RdP w1.heap.size w1.heap.size ⟨l, [], 0⟩ (w1.alloc (.cells #[lv, .slice none 0 0, .int .i64 0] 63)) := by
  refine ⟨Nat.le_refl _, lv, .slice none 0 0, heap_alloc_new w1 _, Low.ofStrs h ((Below.refl _ _).alloc (Nat.le_refl _) _), World.ownsRow_nil _ _ _ _, by simp [Value.ownBlock]⟩
theorem RdP.outs {base b : Nat} {s : StP} {w : World} (h : RdP base b s w) : ∃ pv, (w.cell? ⟨b, 1, none⟩ = some pv ∧ w.frozen? ⟨b, 1, none⟩ = false) ∧ Strs w pv s.parts := by
  obtain ⟨h0, lv, pv, h1, hl, h2, h3⟩ := h
  exact ⟨pv, ⟨(block_cell h1 1).trans rfl, block_free h1 1⟩, Strs.ofRow h2⟩

set_option maxHeartbeats 1000000 in
theorem refParse_any (s : ByteArray) (w : World) (hs : s.size ≤ 140737488351232) : Calls Tryd.prog 33 #[.string s] w (Parsed (parseR s) w) := by
  by_cases hle : 1024 < s.size
  · have hleI : ¬ (s.size : Int) ≤ 1024 := by omega
    have He := Lib.hid (show parseR s = ([], 3) by unfold parseR; rw [if_pos hle])
    clear hle
    go_enter Tryd.func33, Tryd.ntmps33
    go_wp2_with fail
    go_ret2
    rw [He.out]
    exact ⟨_, rfl, strs_nil _, Below.refl _ _⟩
  · have hleI : (s.size : Int) ≤ 1024 := by omega
    have HPc := Lib.hid (pieces_any s w (by omega))
    have hb := bridge s
    have hnf0 := ors0_nf s
    obtain ⟨n, hn⟩ : ∃ n, 8 * s.size + 5 = n := ⟨_, rfl⟩
    rw [hn] at hb
    have hnf : lvlP n .ors ⟨pieces s.data.toList, [], 0⟩ ≠ .err .fuel := by
      intro h
      rw [h] at hb
      cases ho : ors0 s with
      | ok t => rw [ho] at hb; exact hb
      | err c => rw [ho] at hb hnf0; exact hnf0 (by rw [show c = .fuel from hb])
    obtain ⟨hp1, hp2⟩ := pieces_small _ s.data.toList (Nat.le_refl _)
    rw [ba_len] at hp1 hp2
    have HO := Lib.hid (fun (w1 : World) (lv : Value) (hst : Strs w1 lv (pieces s.data.toList)) => (show Calls Tryd.prog 45 _ _ _ from (all_p n).2.2.2 w1.heap.size w1.heap.size ⟨pieces s.data.toList, [], 0⟩ _ 4096 (RdP.start hst) ⟨by simp only [List.length_nil]; omega, by simp, fun x hx => by have := hp2 x hx; omega⟩ (by simp only [List.length_nil]; omega) hnf))
    have hpr : parseR s = match ors0 s with | .err c => ([], errC c) | .ok t => if t.rest = [] then (t.parts, 0) else ([], 4) := by unfold parseR; rw [if_neg hle]; cases ors0 s <;> rfl
    cases hq : lvlP n .ors ⟨pieces s.data.toList, [], 0⟩ with
    | err c =>
      rw [hq] at HO hnf hb
      have hcf : c ≠ .fuel := fun h => hnf (by rw [h])
      have He := Lib.hid (show parseR s = ([], errC c) by
        rw [hpr]
        cases ho : ors0 s with
        | ok t => rw [ho] at hb; exact hb.elim
        | err c' => rw [ho] at hb; rw [show c' = c from hb])
      clear hle hnf hq hpr hb hnf0 hp1 hp2 hn
      go_enter Tryd.func33, Tryd.ntmps33
      go_wp2_with fail
      refine HPc.out.mono ?_
      rintro e w1 ⟨v1, rfl, hst, hB1⟩
      have Hst := Lib.hid hst
      obtain ⟨pv1, capv1, rfl, _⟩ := strs_shape hst
      clear hst
      go_wp2_with fail
      refine (HO.out _ _ Hst.out).mono ?_
      rintro e w2 ⟨v, rfl, ⟨hv, hq⟩, hB2⟩
      obtain ⟨v1, v2⟩ := nfv hcf hv
      have Hv := Lib.hid hv
      clear hv hq
      go_wp2_with fail
      go_ret2
      rw [He.out]
      exact ⟨_, by rw [Hv.out]; rfl, strs_nil _, (hB1.alloc hB1.size _).trans (hB2.mono hB1.size)⟩
    | ok q =>
      rw [hq] at HO hb
      have He : parseR s = if q.left = [] then (q.parts, 0) else ([], 4) := by
        rw [hpr]
        cases ho : ors0 s with
        | err c => rw [ho] at hb; exact hb.elim
        | ok t =>
          rw [ho] at hb
          obtain ⟨b1, b2, b3⟩ := hb
          simp only
          have hiff : t.rest = [] ↔ q.left = [] := by
            rw [b1]
            constructor
            · intro h; rw [h]; rfl
            · exact pieces_none (ors_trim (show lvl (8 * s.size + 5) .ors ⟨s.data.toList, [], 0⟩ = .ok t from ho))
          by_cases hr : t.rest = []
          · rw [if_pos hr, if_pos (hiff.1 hr), b2]
          · rw [if_neg hr, if_neg (fun h => hr (hiff.2 h))]
      clear hle hnf hq hpr hb hnf0 hp1 hp2 hn
      by_cases hl : q.left = []
      · rw [if_pos hl] at He
        have He := Lib.hid He
        go_enter Tryd.func33, Tryd.ntmps33
        go_wp2_with fail
        refine HPc.out.mono ?_
        rintro e w1 ⟨v1, rfl, hst, hB1⟩
        have Hst := Lib.hid hst
        obtain ⟨pv1, capv1, rfl, _⟩ := strs_shape hst
        clear hst
        go_wp2_with fail
        refine (HO.out _ _ Hst.out).mono ?_
        rintro e w2 ⟨v, rfl, ⟨rfl, hR⟩, hB2⟩
        obtain ⟨lv, ⟨hc0, hf0⟩, hl0⟩ := hR.cell0
        obtain ⟨pv, ⟨hc1, hf1⟩, hst2⟩ := hR.outs
        rw [hl] at hl0
        obtain ⟨pl, capl, rfl⟩ := hl0.nil
        have Hst2 := Lib.hid hst2
        clear hst2 hR hl0 hl
        go_wp2_with fail
        go_ret2
        rw [He.out]
        exact ⟨_, rfl, Hst2.out, (hB1.alloc hB1.size _).trans (hB2.mono hB1.size)⟩
      · rw [if_neg hl] at He
        have He := Lib.hid He
        have hpos : 0 < q.left.length := List.length_pos_iff.2 hl
        go_enter Tryd.func33, Tryd.ntmps33
        go_wp2_with fail
        refine HPc.out.mono ?_
        rintro e w1 ⟨v1, rfl, hst, hB1⟩
        have Hst := Lib.hid hst
        obtain ⟨pv1, capv1, rfl, _⟩ := strs_shape hst
        clear hst
        go_wp2_with fail
        refine (HO.out _ _ Hst.out).mono ?_
        rintro e w2 ⟨v, rfl, ⟨rfl, hR⟩, hB2⟩
        obtain ⟨lv, ⟨hc0, hf0⟩, hl0⟩ := hR.cell0
        obtain ⟨pl, capl, rfl⟩ := hl0.shape
        have hposI : (0 : Int) < (q.left.length : Int) := by omega
        clear hR hl0 hl
        go_wp2_with fail
        go_ret2
        rw [He.out]
        exact ⟨_, rfl, strs_nil _, (hB1.alloc hB1.size _).trans (hB2.mono hB1.size)⟩

end Go.Proofs.YtfkmijdpcenieaaDoor
