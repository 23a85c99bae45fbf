/- Walks: In, of a header without a fault; alive. -/
import Derived.Test.YtpibehfmbmincaaGreatDoorCd
import Derived.Test.YtpibehfmbmincaaGreatDoorXm
namespace Go.Proofs.YtpibehfmbmincaaGreatDoor
set_option linter.unusedVariables false
open Go.ChangeShapes Go.WideShapes Go.ChangeAt Go.RowKit

theorem getD_size {l : List ByteArray} {M : Nat} (h : ∀ x ∈ l, x.size ≤ M) (k : Nat) : (l.getD k ByteArray.empty).size ≤ M := by
  by_cases hk : k < l.length
  · exact h _ (getD_mem hk)
  · rw [List.getD_eq_getElem?_getD, List.getElem?_eq_none (by omega)]; exact Nat.zero_le _
theorem tags_size {l : List ByteArray} {M : Nat} (h : ∀ x ∈ l, x.size ≤ M) : (tagsB l).1.size ≤ M ∧ (tagsB l).2.size ≤ M := by
  have z : (⟨#[]⟩ : ByteArray).size ≤ M := Nat.zero_le _
  unfold tagsB
  split
  · exact ⟨getD_size h _, getD_size h _⟩
  · split
    · exact ⟨getD_size h _, z⟩
    · split
      · exact ⟨z, getD_size h _⟩
      · exact ⟨z, z⟩
theorem rest_size (q : ByteArray) : (restB q).size ≤ q.size := by
  unfold restB
  split
  · exact ex_size q 5
  · exact Nat.le_refl _
theorem of_size (s : ByteArray) : (ofB s).2.2.1.size ≤ s.size + 1 ∧ (ofB s).2.2.2.size ≤ s.size + 1 := by
  by_cases hc : endsB s goE = false ∨ passB s = true
  · have e : ofB s = (false, false, ⟨#[]⟩, ⟨#[]⟩) := by unfold ofB; rw [if_pos hc]
    rw [e]
    exact ⟨Nat.zero_le _, Nat.zero_le _⟩
  · obtain ⟨L, hL⟩ : ∃ L, L = cutB 95 (restB (s.extract 0 (s.size - 3))) := ⟨_, rfl⟩
    have e : ofB s = (true, endsB (s.extract 0 (s.size - 3)) testE, tagsB L) := by unfold ofB; rw [if_neg hc, hL]
    rw [e]
    refine tags_size fun x hx => ?_
    rw [hL] at hx
    have h1 := sums_mem _ x hx
    have h2 := sums_cutB 95 (restB (s.extract 0 (s.size - 3)))
    have h3 := rest_size (s.extract 0 (s.size - 3))
    have h4 := ex_size s 3
    omega
theorem isEmpty_yes {t : ByteArray} (h : t = ⟨#[]⟩) : t.toList.isEmpty = true := by rw [h, Lib.toList_data]; rfl
set_option maxHeartbeats 1000000 in
theorem in0_any (c : Cf) (file : ByteArray) (h : Hd) (tv iv ev : Value) (at_ : Int) (w : World) (hE : Env w) (hv : Strs w tv c.tags) (hl : c.tags.length ≤ 1073741824) (hi : Rows w 3 impR iv h.imps)
    (hev : ∃ s k cs, ev = .slice s k cs) (hf : h.fault = 0) (hfs : file.size ≤ 1073741823) (hbs : h.build.size ≤ 65535) (hns : h.name.size ≤ 1073741824) :
    Calls Tryz.prog 10 #[cfV c tv, .string file, hdV h iv ev at_] w fun e w' => e = .returned (.tuple #[.int .i64 (inR c (ofB file) h).1, .int .i64 (inR c (ofB file) h).2]) ∧ Below w.heap.size w w' := by
  have HO := fun w1 (h1 : Below w.heap.size w w1) => (hE.below h1).max.2
  have HO : ∀ w1, Below w.heap.size w w1 → Calls Tryz.prog 17 #[.string file] w1 fun e w' => e = .returned (agg4 (ofB file)) ∧ Below w1.heap.size w1 w' := fun w1 h1 => by
    obtain ⟨m, hm⟩ := HO w1 h1
    exact of_any file m w1 (by omega) hm
  have HN := fun z w1 (h1 : Below w.heap.size w w1) (hz : z.size ≤ 140737488351232) => on_any c z tv w1 (hE.below h1) (hv.below h1) hl hz
  have HH := fun w1 (h1 : Below w.heap.size w w1) => holds_any c h.build tv w1 (hE.below h1) (hv.below h1) hl hbs
  have HC := fun w1 (h1 : Below w.heap.size w w1) => containsC_any iv h.imps w1 (hi.below h1)
  have HF := fun w1 => faulty_any (ofB file) w1
  have HV := fun w1 => variant_any (ofB file) h.name w1 hns
  obtain ⟨hz1, hz2⟩ := of_size file
  obtain ⟨p, cp, rfl, -⟩ := strs_shape hv
  obtain ⟨q, cq, rfl, -⟩ := hi.shape
  obtain ⟨s, k, cs, rfl⟩ := hev
  clear hE hv hi
  have HNo : ∀ z, z.size ≤ 140737488351232 → ∀ b, onB c z = b → ∀ w1, Below w.heap.size w w1 → Calls Tryz.prog 8 #[cfV c (.slice p c.tags.length cp), .string z] w1 fun e w' => e = .returned (.bool b) ∧ Below w1.heap.size w1 w' := fun z hz b hb w1 h1 => by
    subst hb; exact HN z w1 h1 hz
  clear HN
  have hres : inR c (ofB file) h = if !(ofB file).1 || outB c (ofB file).2.2.1 || outB c (ofB file).2.2.2 then (0, 0) else if (holdsR c h.build).2 ≠ 0 then (kindN (ofB file), 4) else if !(holdsR c h.build).1 || (!c.cgo && h.imps.any isC) then (0, 0) else (varN (ofB file) h.name, 0) := by
    unfold inR
    rw [hf]
    simp
  rw [hres]
  clear hres
  unfold agg4 at HO HF HV
  unfold cfV at HNo HH ⊢
  unfold hdV
  rw [hf]
  generalize kindN (ofB file) = kn at *
  generalize varN (ofB file) h.name = vn at *
  generalize ofB file = r at *
  obtain ⟨g, t, z, y⟩ := r
  simp only at hz1 hz2 HO HF HV ⊢
  have out_e : ∀ {z}, z = (⟨#[]⟩ : ByteArray) → outB c z = false := fun e => by unfold outB; rw [decide_eq_true e]; rfl
  have out_b : ∀ {z}, ¬ z = (⟨#[]⟩ : ByteArray) → ∀ b, onB c z = b → outB c z = !b := fun e b hb => by unfold outB; rw [decide_eq_false e, hb]; rfl
  cases g with
  | false =>
    simp only [Bool.not_false, Bool.true_or, if_true]
    exact in_no_n c.os c.arch h.name h.build z y file c.cgo t false c.lv 0 at_ p q s _ _ k cp cq cs w (Lib.hid HO)
  | true =>

    by_cases ez : z = ⟨#[]⟩
    · skip
      by_cases ey : y = ⟨#[]⟩
      · rw [out_e ez, out_e ey, if_neg (by simp)]
        obtain ⟨⟨hx, he⟩, hh⟩ : ∃ r, holdsR c h.build = r := ⟨_, rfl⟩
        rw [hh] at HH ⊢
        simp only at HH ⊢
        by_cases h1 : he = 0
        · subst h1
          rw [if_neg (by simp)]
          cases hx with
          | false =>
            simp only [Bool.not_false, Bool.true_or, if_true]
            exact in_EE_f c.os c.arch h.name h.build z y file c.cgo t false c.lv 0 at_ p q s _ _ k cp cq cs w (Lib.hid HO) (isEmpty_yes ez) (isEmpty_yes ey) (Lib.hid HH)
          | true =>
            obtain ⟨cg, hcg⟩ : ∃ x, c.cgo = x := ⟨_, rfl⟩
            rw [hcg] at HH HNo ⊢
            cases cg with
            | true =>
              simp only [Bool.not_true, Bool.false_and, Bool.or_false, Bool.false_eq_true, if_false]
              exact in_EE_g c.os c.arch h.name h.build z y file t false c.lv 0 at_ p q s _ _ k cp cq cs w (Lib.hid HO) (isEmpty_yes ez) (isEmpty_yes ey) (Lib.hid HH) vn (Lib.hid HV)
            | false =>
              obtain ⟨an, han⟩ : ∃ x, h.imps.any isC = x := ⟨_, rfl⟩
              rw [han] at HC ⊢
              cases an with
              | true =>
                simp only [Bool.not_true, Bool.not_false, Bool.and_true, Bool.false_or, if_true]
                exact in_EE_c c.os c.arch h.name h.build z y file t false c.lv 0 at_ p q s _ _ k cp cq cs w (Lib.hid HO) (isEmpty_yes ez) (isEmpty_yes ey) (Lib.hid HH) (Lib.hid HC)
              | false =>
                simp only [Bool.not_true, Bool.not_false, Bool.and_false, Bool.or_false, Bool.false_eq_true, if_false]
                exact in_EE_v c.os c.arch h.name h.build z y file t false c.lv 0 at_ p q s _ _ k cp cq cs w (Lib.hid HO) (isEmpty_yes ez) (isEmpty_yes ey) (Lib.hid HH) vn (Lib.hid HV) (Lib.hid HC)
        · rw [if_pos h1]
          exact in_EE_e c.os c.arch h.name h.build z y file c.cgo t hx c.lv he at_ p q s _ _ k cp cq cs w (Lib.hid HO) (isEmpty_yes ez) (isEmpty_yes ey) (Lib.hid HH) (by rw [bne_iff_ne]; exact h1) kn (Lib.hid HF)
      · cases ony : onB c y with
        | true =>
          rw [out_e ez, out_b ey _ ony, if_neg (by simp)]
          obtain ⟨⟨hx, he⟩, hh⟩ : ∃ r, holdsR c h.build = r := ⟨_, rfl⟩
          rw [hh] at HH ⊢
          simp only at HH ⊢
          by_cases h1 : he = 0
          · subst h1
            rw [if_neg (by simp)]
            cases hx with
            | false =>
              simp only [Bool.not_false, Bool.true_or, if_true]
              exact in_EY_f c.os c.arch h.name h.build z y file c.cgo t false c.lv 0 at_ p q s _ _ k cp cq cs w (Lib.hid HO) (isEmpty_yes ez) (Lib.hid (HNo y (by omega) true ony)) (isEmpty_ne ey) (Lib.hid HH)
            | true =>
              obtain ⟨cg, hcg⟩ : ∃ x, c.cgo = x := ⟨_, rfl⟩
              rw [hcg] at HH HNo ⊢
              cases cg with
              | true =>
                simp only [Bool.not_true, Bool.false_and, Bool.or_false, Bool.false_eq_true, if_false]
                exact in_EY_g c.os c.arch h.name h.build z y file t false c.lv 0 at_ p q s _ _ k cp cq cs w (Lib.hid HO) (isEmpty_yes ez) (Lib.hid (HNo y (by omega) true ony)) (isEmpty_ne ey) (Lib.hid HH) vn (Lib.hid HV)
              | false =>
                obtain ⟨an, han⟩ : ∃ x, h.imps.any isC = x := ⟨_, rfl⟩
                rw [han] at HC ⊢
                cases an with
                | true =>
                  simp only [Bool.not_true, Bool.not_false, Bool.and_true, Bool.false_or, if_true]
                  exact in_EY_c c.os c.arch h.name h.build z y file t false c.lv 0 at_ p q s _ _ k cp cq cs w (Lib.hid HO) (isEmpty_yes ez) (Lib.hid (HNo y (by omega) true ony)) (isEmpty_ne ey) (Lib.hid HH) (Lib.hid HC)
                | false =>
                  simp only [Bool.not_true, Bool.not_false, Bool.and_false, Bool.or_false, Bool.false_eq_true, if_false]
                  exact in_EY_v c.os c.arch h.name h.build z y file t false c.lv 0 at_ p q s _ _ k cp cq cs w (Lib.hid HO) (isEmpty_yes ez) (Lib.hid (HNo y (by omega) true ony)) (isEmpty_ne ey) (Lib.hid HH) vn (Lib.hid HV) (Lib.hid HC)
          · rw [if_pos h1]
            exact in_EY_e c.os c.arch h.name h.build z y file c.cgo t hx c.lv he at_ p q s _ _ k cp cq cs w (Lib.hid HO) (isEmpty_yes ez) (Lib.hid (HNo y (by omega) true ony)) (isEmpty_ne ey) (Lib.hid HH) (by rw [bne_iff_ne]; exact h1) kn (Lib.hid HF)
        | false =>
          rw [out_e ez, out_b ey _ ony, if_pos (by simp)]
          exact in_EN_n c.os c.arch h.name h.build z y file c.cgo t false c.lv 0 at_ p q s _ _ k cp cq cs w (Lib.hid HO) (isEmpty_yes ez) (Lib.hid (HNo y (by omega) false ony)) (isEmpty_ne ey)
    · cases on : onB c z with
      | true =>
        by_cases ey : y = ⟨#[]⟩
        · rw [out_b ez _ on, out_e ey, if_neg (by simp)]
          obtain ⟨⟨hx, he⟩, hh⟩ : ∃ r, holdsR c h.build = r := ⟨_, rfl⟩
          rw [hh] at HH ⊢
          simp only at HH ⊢
          by_cases h1 : he = 0
          · subst h1
            rw [if_neg (by simp)]
            cases hx with
            | false =>
              simp only [Bool.not_false, Bool.true_or, if_true]
              exact in_YE_f c.os c.arch h.name h.build z y file c.cgo t false c.lv 0 at_ p q s _ _ k cp cq cs w (Lib.hid HO) (Lib.hid (HNo z (by omega) true on)) (isEmpty_ne ez) (isEmpty_yes ey) (Lib.hid HH)
            | true =>
              obtain ⟨cg, hcg⟩ : ∃ x, c.cgo = x := ⟨_, rfl⟩
              rw [hcg] at HH HNo ⊢
              cases cg with
              | true =>
                simp only [Bool.not_true, Bool.false_and, Bool.or_false, Bool.false_eq_true, if_false]
                exact in_YE_g c.os c.arch h.name h.build z y file t false c.lv 0 at_ p q s _ _ k cp cq cs w (Lib.hid HO) (Lib.hid (HNo z (by omega) true on)) (isEmpty_ne ez) (isEmpty_yes ey) (Lib.hid HH) vn (Lib.hid HV)
              | false =>
                obtain ⟨an, han⟩ : ∃ x, h.imps.any isC = x := ⟨_, rfl⟩
                rw [han] at HC ⊢
                cases an with
                | true =>
                  simp only [Bool.not_true, Bool.not_false, Bool.and_true, Bool.false_or, if_true]
                  exact in_YE_c c.os c.arch h.name h.build z y file t false c.lv 0 at_ p q s _ _ k cp cq cs w (Lib.hid HO) (Lib.hid (HNo z (by omega) true on)) (isEmpty_ne ez) (isEmpty_yes ey) (Lib.hid HH) (Lib.hid HC)
                | false =>
                  simp only [Bool.not_true, Bool.not_false, Bool.and_false, Bool.or_false, Bool.false_eq_true, if_false]
                  exact in_YE_v c.os c.arch h.name h.build z y file t false c.lv 0 at_ p q s _ _ k cp cq cs w (Lib.hid HO) (Lib.hid (HNo z (by omega) true on)) (isEmpty_ne ez) (isEmpty_yes ey) (Lib.hid HH) vn (Lib.hid HV) (Lib.hid HC)
          · rw [if_pos h1]
            exact in_YE_e c.os c.arch h.name h.build z y file c.cgo t hx c.lv he at_ p q s _ _ k cp cq cs w (Lib.hid HO) (Lib.hid (HNo z (by omega) true on)) (isEmpty_ne ez) (isEmpty_yes ey) (Lib.hid HH) (by rw [bne_iff_ne]; exact h1) kn (Lib.hid HF)
        · cases ony : onB c y with
          | true =>
            rw [out_b ez _ on, out_b ey _ ony, if_neg (by simp)]
            obtain ⟨⟨hx, he⟩, hh⟩ : ∃ r, holdsR c h.build = r := ⟨_, rfl⟩
            rw [hh] at HH ⊢
            simp only at HH ⊢
            by_cases h1 : he = 0
            · subst h1
              rw [if_neg (by simp)]
              cases hx with
              | false =>
                simp only [Bool.not_false, Bool.true_or, if_true]
                exact in_YY_f c.os c.arch h.name h.build z y file c.cgo t false c.lv 0 at_ p q s _ _ k cp cq cs w (Lib.hid HO) (Lib.hid (HNo z (by omega) true on)) (isEmpty_ne ez) (Lib.hid (HNo y (by omega) true ony)) (isEmpty_ne ey) (Lib.hid HH)
              | true =>
                obtain ⟨cg, hcg⟩ : ∃ x, c.cgo = x := ⟨_, rfl⟩
                rw [hcg] at HH HNo ⊢
                cases cg with
                | true =>
                  simp only [Bool.not_true, Bool.false_and, Bool.or_false, Bool.false_eq_true, if_false]
                  exact in_YY_g c.os c.arch h.name h.build z y file t false c.lv 0 at_ p q s _ _ k cp cq cs w (Lib.hid HO) (Lib.hid (HNo z (by omega) true on)) (isEmpty_ne ez) (Lib.hid (HNo y (by omega) true ony)) (isEmpty_ne ey) (Lib.hid HH) vn (Lib.hid HV)
                | false =>
                  obtain ⟨an, han⟩ : ∃ x, h.imps.any isC = x := ⟨_, rfl⟩
                  rw [han] at HC ⊢
                  cases an with
                  | true =>
                    simp only [Bool.not_true, Bool.not_false, Bool.and_true, Bool.false_or, if_true]
                    exact in_YY_c c.os c.arch h.name h.build z y file t false c.lv 0 at_ p q s _ _ k cp cq cs w (Lib.hid HO) (Lib.hid (HNo z (by omega) true on)) (isEmpty_ne ez) (Lib.hid (HNo y (by omega) true ony)) (isEmpty_ne ey) (Lib.hid HH) (Lib.hid HC)
                  | false =>
                    simp only [Bool.not_true, Bool.not_false, Bool.and_false, Bool.or_false, Bool.false_eq_true, if_false]
                    exact in_YY_v c.os c.arch h.name h.build z y file t false c.lv 0 at_ p q s _ _ k cp cq cs w (Lib.hid HO) (Lib.hid (HNo z (by omega) true on)) (isEmpty_ne ez) (Lib.hid (HNo y (by omega) true ony)) (isEmpty_ne ey) (Lib.hid HH) vn (Lib.hid HV) (Lib.hid HC)
            · rw [if_pos h1]
              exact in_YY_e c.os c.arch h.name h.build z y file c.cgo t hx c.lv he at_ p q s _ _ k cp cq cs w (Lib.hid HO) (Lib.hid (HNo z (by omega) true on)) (isEmpty_ne ez) (Lib.hid (HNo y (by omega) true ony)) (isEmpty_ne ey) (Lib.hid HH) (by rw [bne_iff_ne]; exact h1) kn (Lib.hid HF)
          | false =>
            rw [out_b ez _ on, out_b ey _ ony, if_pos (by simp)]
            exact in_YN_n c.os c.arch h.name h.build z y file c.cgo t false c.lv 0 at_ p q s _ _ k cp cq cs w (Lib.hid HO) (Lib.hid (HNo z (by omega) true on)) (isEmpty_ne ez) (Lib.hid (HNo y (by omega) false ony)) (isEmpty_ne ey)
      | false =>
        rw [out_b ez _ on, if_pos (by simp)]
        exact in_N_n c.os c.arch h.name h.build z y file c.cgo t false c.lv 0 at_ p q s _ _ k cp cq cs w (Lib.hid HO) (Lib.hid (HNo z (by omega) false on)) (isEmpty_ne ez)

/-! ### alive -/
def aliveC : Cf := ⟨⟨#[108, 105, 110, 117, 120]⟩, ⟨#[97, 114, 109]⟩, false, 20, []⟩
def aliveH : Hd := ⟨⟨#[97, 95, 116, 101, 115, 116]⟩, [], ⟨#[]⟩, 0⟩
theorem rel_20 : (⟨#[103, 111, 49, 46, 50, 48]⟩ : ByteArray) = relT 20 := by
  unfold relT
  rw [Lib.decDigits_two (by decide) (by decide)]
  rfl
theorem rel_21 : (⟨#[103, 111, 49, 46, 50, 49]⟩ : ByteArray) = relT 21 := by
  unfold relT
  rw [Lib.decDigits_two (by decide) (by decide)]
  rfl
theorem alive_20 : onB aliveC ⟨#[103, 111, 49, 46, 50, 48]⟩ = true := by rw [rel_20, on_rel aliveC (by decide)]; rfl
theorem alive_21 : onB aliveC ⟨#[103, 111, 49, 46, 50, 49]⟩ = false := by
  rw [rel_21, on_rel aliveC (by decide), ← rel_21]
  decide +kernel
theorem alive_u : onB aliveC ⟨#[117, 110, 105, 120]⟩ = true := by decide +kernel
theorem alive_in : inR aliveC (ofB ⟨#[97, 95, 108, 105, 110, 117, 120, 95, 116, 101, 115, 116, 46, 103, 111]⟩) aliveH = (3, 0) := by decide +kernel
set_option maxRecDepth 100000 in
theorem alive_any (w : World) (hE : Env w) : Calls Tryz.prog 6 #[] w fun e w' => e = .returned (.bool true) ∧ Below w.heap.size w w' := by
  have HI := fun w1 (h1 : Below w.heap.size w w1) => in0_any aliveC ⟨#[97, 95, 108, 105, 110, 117, 120, 95, 116, 101, 115, 116, 46, 103, 111]⟩ aliveH (.slice none 0 0) (.slice none 0 0) (.slice none 0 0) 0 w1 (hE.below h1) (.inl ⟨⟨_, _, rfl⟩, rfl⟩) (by decide) (.inl ⟨⟨_, _, rfl⟩, rfl⟩) ⟨_, _, _, rfl⟩ rfl (by decide) (by decide) (by decide)
  have HO := fun t (ht : t.size ≤ 140737488351232) b (hb : onB aliveC t = b) w1 (h1 : Below w.heap.size w w1) => (by
    have := on_any aliveC t (.slice none 0 0) w1 (hE.below h1) (.inl ⟨⟨_, _, rfl⟩, rfl⟩) (by decide) ht
    rw [hb] at this
    exact this : Calls Tryz.prog 8 #[cfV aliveC (.slice none 0 0), .string t] w1 fun e w' => e = .returned (.bool b) ∧ Below w1.heap.size w1 w')
  rw [alive_in] at HI
  have H1 := Lib.hid HI
  have H2 := Lib.hid (HO _ (by decide) _ alive_20)
  have H3 := Lib.hid (HO _ (by decide) _ alive_21)
  have H4 := Lib.hid (HO _ (by decide) _ alive_u)
  clear HI HO hE
  unfold cfV hdV aliveC aliveH at H1
  unfold cfV aliveC at H2 H3 H4
  simp only at H1 H2 H3 H4
  have hb := (Below.refl w.heap.size w).alloc (Nat.le_refl _) (Obj.cells #[.string ⟨#[108, 105, 110, 117, 120]⟩, .string ⟨#[97, 114, 109]⟩, .bool false, .int .i64 20, .slice none 0 0] 24)
  go_enter Tryz.func6, Tryz.ntmps6
  go_wp2_with fail
  refine (H1.out _ hb).mono ?_
  rintro e w1 ⟨rfl, hB1⟩
  have q := fun i => old_cell hB1 i
  have hs1 := hB1.size
  simp at hs1
  have hb1 := hb.trans (hB1.mono hb.size)
  have a0 : w1.cell? ⟨w.heap.size, 0, none⟩ = some (.string ⟨#[108, 105, 110, 117, 120]⟩) := q 0
  have a1 : w1.cell? ⟨w.heap.size, 1, none⟩ = some (.string ⟨#[97, 114, 109]⟩) := q 1
  have a2 : w1.cell? ⟨w.heap.size, 2, none⟩ = some (.bool false) := q 2
  have a3 : w1.cell? ⟨w.heap.size, 3, none⟩ = some (.int .i64 20) := q 3
  have a4 : w1.cell? ⟨w.heap.size, 4, none⟩ = some (.slice none 0 0) := q 4
  clear q hB1
  go_wp2_with fail
  refine (H2.out _ hb1).mono ?_
  rintro e w2 ⟨rfl, hB2⟩
  have hb2 := hb1.trans (hB2.mono hb1.size)
  have hs2 := hB2.size
  have lt2 : w.heap.size < w1.heap.size := by omega
  have c0 := (hB2.cell (p := ⟨w.heap.size, 0, none⟩) lt2).trans a0
  have c1 := (hB2.cell (p := ⟨w.heap.size, 1, none⟩) lt2).trans a1
  have c2 := (hB2.cell (p := ⟨w.heap.size, 2, none⟩) lt2).trans a2
  have c3 := (hB2.cell (p := ⟨w.heap.size, 3, none⟩) lt2).trans a3
  have c4 := (hB2.cell (p := ⟨w.heap.size, 4, none⟩) lt2).trans a4
  clear hB2
  have lt2' : w.heap.size < w2.heap.size := by omega
  go_wp2_with fail
  refine (H3.out _ hb2).mono ?_
  rintro e w3 ⟨rfl, hB3⟩
  have hb3 := hb2.trans (hB3.mono hb2.size)
  have hs3 := hB3.size
  have d0 := (hB3.cell (p := ⟨w.heap.size, 0, none⟩) lt2').trans c0
  have d1 := (hB3.cell (p := ⟨w.heap.size, 1, none⟩) lt2').trans c1
  have d2 := (hB3.cell (p := ⟨w.heap.size, 2, none⟩) lt2').trans c2
  have d3 := (hB3.cell (p := ⟨w.heap.size, 3, none⟩) lt2').trans c3
  have d4 := (hB3.cell (p := ⟨w.heap.size, 4, none⟩) lt2').trans c4
  clear hB3
  have lt3 : w.heap.size < w3.heap.size := by omega
  go_wp2_with fail
  refine (H4.out _ hb3).mono ?_
  rintro e w4 ⟨rfl, hB4⟩
  have hb4 := hb3.trans (hB4.mono hb3.size)
  go_wp2_with fail
  go_ret
  exact ⟨rfl, hb4⟩
end Go.Proofs.YtpibehfmbmincaaGreatDoor
