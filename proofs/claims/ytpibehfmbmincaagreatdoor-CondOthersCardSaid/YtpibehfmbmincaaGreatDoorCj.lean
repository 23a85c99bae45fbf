/- Walks: In, of any header; tags in another order, with a word that is none, change nothing. -/
import Derived.Test.YtpibehfmbmincaaGreatDoorCi
import Derived.Test.YtpibehfmbmincaaGreatDoorCe
namespace Go.Proofs.YtpibehfmbmincaaGreatDoor
set_option linter.unusedVariables false
open Go.ChangeShapes Go.WideShapes Go.ChangeAt Go.RowKit

set_option maxHeartbeats 1000000 in
theorem in1_any (c : Cf) (file : ByteArray) (h : Hd) (tv iv ev : Value) (at_ : Int) (w : World) (hE : Env w) (hv : Strs w tv c.tags) (hl : c.tags.length ≤ 1073741824) (hi : Rows w 3 impR iv h.imps)
    (hev : ∃ s k cs, ev = .slice s k cs) (hf : h.fault ≠ 0) (hfs : file.size ≤ 1073741823) :
    Calls Tryz.prog 10 #[cfV c tv, .string file, hdV h iv ev at_] w fun e w' => e = .returned (.tuple #[.int .i64 (inR c (ofB file) h).1, .int .i64 (inR c (ofB file) h).2]) ∧ Below w.heap.size w w' := by
  have HO := fun w1 (h1 : Below w.heap.size w w1) => (hE.below h1).max.2
  have HO : ∀ w1, Below w.heap.size w w1 → Calls Tryz.prog 17 #[.string file] w1 fun e w' => e = .returned (agg4 (ofB file)) ∧ Below w1.heap.size w1 w' := fun w1 h1 => by
    obtain ⟨m, hm⟩ := HO w1 h1
    exact of_any file m w1 (by omega) hm
  have HN := fun z w1 (h1 : Below w.heap.size w w1) (hz : z.size ≤ 140737488351232) => on_any c z tv w1 (hE.below h1) (hv.below h1) hl hz
  have HF := fun w1 => faulty_any (ofB file) w1
  obtain ⟨hz1, hz2⟩ := of_size file
  obtain ⟨p, cp, rfl, -⟩ := strs_shape hv
  obtain ⟨q, cq, rfl, -⟩ := hi.shape
  obtain ⟨s, k, cs, rfl⟩ := hev
  clear hE hv hi
  have HNo : ∀ z, z.size ≤ 140737488351232 → ∀ b, onB c z = b → ∀ w1, Below w.heap.size w w1 → Calls Tryz.prog 8 #[cfV c (.slice p c.tags.length cp), .string z] w1 fun e w' => e = .returned (.bool b) ∧ Below w1.heap.size w1 w' := fun z hz b hb w1 h1 => by
    subst hb; exact HN z w1 h1 hz
  clear HN
  have hres : inR c (ofB file) h = if !(ofB file).1 || outB c (ofB file).2.2.1 || outB c (ofB file).2.2.2 then (0, 0) else (kindN (ofB file), h.fault) := by
    unfold inR
    rw [if_pos hf]
  rw [hres]
  clear hres
  have hfl : (h.fault != 0) = true := by rw [bne_iff_ne]; exact hf
  unfold agg4 at HO HF
  unfold cfV at HNo ⊢
  unfold hdV
  generalize h.fault = fl at *
  generalize kindN (ofB file) = kn at *
  generalize ofB file = r at *
  obtain ⟨g, t, z, y⟩ := r
  simp only at hz1 hz2 HO HF ⊢
  have out_e : ∀ {z}, z = (⟨#[]⟩ : ByteArray) → outB c z = false := fun e => by unfold outB; rw [decide_eq_true e]; rfl
  have out_b : ∀ {z}, ¬ z = (⟨#[]⟩ : ByteArray) → ∀ b, onB c z = b → outB c z = !b := fun e b hb => by unfold outB; rw [decide_eq_false e, hb]; rfl
  cases g with
  | false =>
    simp only [Bool.not_false, Bool.true_or, if_true]
    exact inq_no_n c.os c.arch h.name h.build z y file c.cgo t c.lv fl at_ p q s _ _ k cp cq cs w hfl (Lib.hid HO)
  | true =>

    by_cases ez : z = ⟨#[]⟩
    · skip
      by_cases ey : y = ⟨#[]⟩
      · rw [out_e ez, out_e ey, if_neg (by simp)]
        exact inq_EE_h c.os c.arch h.name h.build z y file c.cgo t c.lv fl at_ p q s _ _ k cp cq cs w hfl (Lib.hid HO) (isEmpty_yes ez) (isEmpty_yes ey) kn (Lib.hid HF)
      · cases ony : onB c y with
        | true =>
          rw [out_e ez, out_b ey _ ony, if_neg (by simp)]
          exact inq_EY_h c.os c.arch h.name h.build z y file c.cgo t c.lv fl at_ p q s _ _ k cp cq cs w hfl (Lib.hid HO) (isEmpty_yes ez) (Lib.hid (HNo y (by omega) true ony)) (isEmpty_ne ey) kn (Lib.hid HF)
        | false =>
          rw [out_e ez, out_b ey _ ony, if_pos (by simp)]
          exact inq_EN_n c.os c.arch h.name h.build z y file c.cgo t c.lv fl at_ p q s _ _ k cp cq cs w hfl (Lib.hid HO) (isEmpty_yes ez) (Lib.hid (HNo y (by omega) false ony)) (isEmpty_ne ey)
    · cases on : onB c z with
      | true =>
        by_cases ey : y = ⟨#[]⟩
        · rw [out_b ez _ on, out_e ey, if_neg (by simp)]
          exact inq_YE_h c.os c.arch h.name h.build z y file c.cgo t c.lv fl at_ p q s _ _ k cp cq cs w hfl (Lib.hid HO) (Lib.hid (HNo z (by omega) true on)) (isEmpty_ne ez) (isEmpty_yes ey) kn (Lib.hid HF)
        · cases ony : onB c y with
          | true =>
            rw [out_b ez _ on, out_b ey _ ony, if_neg (by simp)]
            exact inq_YY_h c.os c.arch h.name h.build z y file c.cgo t c.lv fl at_ p q s _ _ k cp cq cs w hfl (Lib.hid HO) (Lib.hid (HNo z (by omega) true on)) (isEmpty_ne ez) (Lib.hid (HNo y (by omega) true ony)) (isEmpty_ne ey) kn (Lib.hid HF)
          | false =>
            rw [out_b ez _ on, out_b ey _ ony, if_pos (by simp)]
            exact inq_YN_n c.os c.arch h.name h.build z y file c.cgo t c.lv fl at_ p q s _ _ k cp cq cs w hfl (Lib.hid HO) (Lib.hid (HNo z (by omega) true on)) (isEmpty_ne ez) (Lib.hid (HNo y (by omega) false ony)) (isEmpty_ne ey)
      | false =>
        rw [out_b ez _ on, if_pos (by simp)]
        exact inq_N_n c.os c.arch h.name h.build z y file c.cgo t c.lv fl at_ p q s _ _ k cp cq cs w hfl (Lib.hid HO) (Lib.hid (HNo z (by omega) false on)) (isEmpty_ne ez)

theorem inh_any (c : Cf) (file : ByteArray) (h : Hd) (tv iv ev : Value) (at_ : Int) (w : World) (hE : Env w) (hv : Strs w tv c.tags) (hl : c.tags.length ≤ 1073741824) (hi : Rows w 3 impR iv h.imps)
    (hev : ∃ s k cs, ev = .slice s k cs) (hfs : file.size ≤ 1073741823) (hbs : h.build.size ≤ 65535) (hns : h.name.size ≤ 1073741824) :
    Calls Tryz.prog 10 #[cfV c tv, .string file, hdV h iv ev at_] w fun e w' => e = .returned (.tuple #[.int .i64 (inR c (ofB file) h).1, .int .i64 (inR c (ofB file) h).2]) ∧ Below w.heap.size w w' := by
  by_cases hf : h.fault = 0
  · exact in0_any c file h tv iv ev at_ w hE hv hl hi hev hf hfs hbs hns
  · exact in1_any c file h tv iv ev at_ w hE hv hl hi hev hf hfs

/-! ### Tags in another order, with a word that is none -/
def dashB : ByteArray := ⟨#[45]⟩
def withT (c : Cf) (l : List ByteArray) : Cf := { c with tags := l }
theorem on_same {c : Cf} {l : List ByteArray} {x : ByteArray} (h : inB c.tags x = inB l x) : onB c x = onB (withT c l) x := by
  unfold onB withT
  simp only
  rw [h]
theorem inB_same {a b : List ByteArray} {x : ByteArray} (h : x ∈ a ↔ x ∈ b) : inB a x = inB b x := by
  rw [Bool.eq_iff_iff, inB_iff, inB_iff]; exact h
theorem in_filter {f g : ByteArray → Bool} {x : ByteArray} {l : List ByteArray} (h : f x = g x) : inB (l.filter f) x = inB (l.filter g) x :=
  inB_same (by rw [List.mem_filter, List.mem_filter, h])
theorem evalS_same {on1 on2 : List ByteArray} (h : ∀ x, tagB x = true → inB on1 x = inB on2 x) : ∀ (ps : List ByteArray) (st : List Bool), evalS on1 st ps = evalS on2 st ps
  | [], st => rfl
  | x :: r, st => by
    have e : stepE on1 st x = stepE on2 st x := by
      unfold stepE
      split
      · rfl
      · split
        · rfl
        · split
          · rfl
          · split
            · rename_i ht; rw [h x ht]
            · rfl
    simp only [evalS]
    rw [e]
    cases stepE on2 st x with
    | none => rfl
    | some u => exact evalS_same h r u
theorem dash_tag : tagB dashB = false := by decide +kernel
theorem holds_same {c d : Cf} (h : ∀ x, x ≠ dashB → onB c x = onB d x) (b : ByteArray) : holdsR c b = holdsR d b := by
  unfold holdsR
  have e : ∀ ps, evalR (ps.filter (onB c)) ps = evalR (ps.filter (onB d)) ps := fun ps => by
    unfold evalR
    rw [evalS_same (on1 := ps.filter (onB c)) (on2 := ps.filter (onB d)) (fun x hx => in_filter (h x (fun he => by rw [he, dash_tag] at hx; cases hx)))]
  rw [e]
theorem known_dash (z : ByteArray) (h : z = ⟨#[]⟩ ∨ inB sysL z = true ∨ inB procL z = true) : z ≠ dashB := by
  have h1 : inB sysL dashB = false := by decide +kernel
  have h2 : inB procL dashB = false := by decide +kernel
  rintro rfl
  rcases h with h | h | h
  · exact absurd h (by decide +kernel)
  · rw [h1] at h; cases h
  · rw [h2] at h; cases h
theorem tags_dash (l : List ByteArray) : (tagsB l).1 ≠ dashB ∧ (tagsB l).2 ≠ dashB := by
  have z := known_dash ⟨#[]⟩ (.inl rfl)
  unfold tagsB
  split
  · rename_i h; exact ⟨known_dash _ (.inr (.inl h.2.1)), known_dash _ (.inr (.inr h.2.2))⟩
  · split
    · rename_i h; exact ⟨known_dash _ (.inr (.inl h.2)), z⟩
    · split
      · rename_i h; exact ⟨z, known_dash _ (.inr (.inr h.2))⟩
      · exact ⟨z, z⟩
theorem of_dash (s : ByteArray) : (ofB s).2.2.1 ≠ dashB ∧ (ofB s).2.2.2 ≠ dashB := by
  by_cases hc : endsB s goE = false ∨ passB s = true
  · have e : ofB s = (false, false, ⟨#[]⟩, ⟨#[]⟩) := by unfold ofB; rw [if_pos hc]
    rw [e]
    have z := known_dash ⟨#[]⟩ (.inl rfl)
    exact ⟨z, z⟩
  · obtain ⟨L, hL⟩ : ∃ L, L = cutB 95 (restB (s.extract 0 (s.size - 3))) := ⟨_, rfl⟩
    have e : ofB s = (true, endsB (s.extract 0 (s.size - 3)) testE, tagsB L) := by unfold ofB; rw [if_neg hc, hL]
    rw [e]
    exact tags_dash L
theorem in_same {c d : Cf} (h : ∀ x, x ≠ dashB → onB c x = onB d x) (hcg : c.cgo = d.cgo) (f : ByteArray) (hd : Hd) : inR c (ofB f) hd = inR d (ofB f) hd := by
  obtain ⟨h1, h2⟩ := of_dash f
  generalize ofB f = r at *
  have e1 : outB c r.2.2.1 = outB d r.2.2.1 := by unfold outB; rw [h _ h1]
  have e2 : outB c r.2.2.2 = outB d r.2.2.2 := by unfold outB; rw [h _ h2]
  unfold inR
  rw [e1, e2, holds_same h, hcg]
theorem in_turned (c : Cf) (f : ByteArray) (hd : Hd) : inR c (ofB f) hd = inR (withT c (dashB :: c.tags.reverse)) (ofB f) hd :=
  in_same (fun x hx => on_same (inB_same (by simp [hx]))) rfl f hd
end Go.Proofs.YtpibehfmbmincaaGreatDoor
