/- The theory of tokens: what the statements GolexSemis and GolexCovers say. -/
import Derived.Test.YtejogobhnbjpdaaDoorGz
namespace Go.Proofs.YtejogobhnbjpdaaDoor
set_option linter.unusedVariables false
set_option linter.unusedSimpArgs false

/-- What stands there, by its first byte; the kinds of tokens. -/
theorem th_spec {s : ByteArray} {q : Nat} (hq : q < s.size) : (thing s q = .lf → byt s q = 10) ∧ (thing s q = .blank → byt s q = 32 ∨ byt s q = 9 ∨ byt s q = 13) ∧ (∀ e, thing s q = .note e → byt s q = 47) ∧ (∀ k e, thing s q = .tok k e → 1 ≤ k ∧ k ≤ 6) := by
  have hc := thing_eq s q
  by_cases h1 : (runeAt s q).1 = 10
  · rw [if_pos h1] at hc; rw [hc]
    exact ⟨fun _ => (rune_byte hq 10 (by omega) (by omega)).1 h1, fun h => by (cases h), fun e h => by (cases h), fun k e h => by (cases h)⟩
  rw [if_neg h1] at hc
  by_cases h2 : blkR (runeAt s q).1 = true
  · rw [if_pos h2] at hc; rw [hc]
    exact ⟨fun h => by (cases h), fun _ => (blk_byt hq h2).1, fun e h => by (cases h), fun k e h => by (cases h)⟩
  rw [if_neg h2] at hc
  by_cases h3 : pre s q [47, 47] = true
  · rw [if_pos h3] at hc; rw [hc]
    exact ⟨fun h => absurd h (ofN_ne _).1, fun h => absurd h (ofN_ne _).2, fun e h => ((pre2 s q _ _ (by omega)).1 h3).2.1, fun k e h => by (cases hl : lineR s q <;> (rw [hl] at h; cases h))⟩
  rw [if_neg h3] at hc
  by_cases h4 : pre s q [47, 42] = true
  · rw [if_pos h4] at hc; rw [hc]
    exact ⟨fun h => absurd h (ofN_ne _).1, fun h => absurd h (ofN_ne _).2, fun e h => ((pre2 s q _ _ (by omega)).1 h4).2.1, fun k e h => by (cases hl : closedR s [42, 47] q (q + 2) <;> (rw [hl] at h; cases h))⟩
  rw [if_neg h4] at hc
  have tk : ∀ k0 e0, 1 ≤ k0 → k0 ≤ 6 → (thing s q = .lf → byt s q = 10) ∧ (thing s q = .blank → byt s q = 32 ∨ byt s q = 9 ∨ byt s q = 13) ∧ (∀ e, thing s q = .note e → byt s q = 47) ∧ (∀ k e, thing s q = .tok k e → 1 ≤ k ∧ k ≤ 6) ∨ thing s q ≠ .tok k0 e0 := fun k0 e0 ha hb => by
    by_cases h : thing s q = .tok k0 e0
    · left; rw [h]
      exact ⟨fun h => by (cases h), fun h => by (cases h), fun e h => by (cases h), fun k e h => by (injection h with h _; omega)⟩
    · exact .inr h
  have bd : ∀ f, thing s q = .bad f → (thing s q = .lf → byt s q = 10) ∧ (thing s q = .blank → byt s q = 32 ∨ byt s q = 9 ∨ byt s q = 13) ∧ (∀ e, thing s q = .note e → byt s q = 47) ∧ (∀ k e, thing s q = .tok k e → 1 ≤ k ∧ k ≤ 6) := fun f h => by
    rw [h]; exact ⟨fun h => by (cases h), fun h => by (cases h), fun e h => by (cases h), fun k e h => by (cases h)⟩
  have rs : ∀ k0 x, 1 ≤ k0 → k0 ≤ 6 → thing s q = Th.of k0 x → (thing s q = .lf → byt s q = 10) ∧ (thing s q = .blank → byt s q = 32 ∨ byt s q = 9 ∨ byt s q = 13) ∧ (∀ e, thing s q = .note e → byt s q = 47) ∧ (∀ k e, thing s q = .tok k e → 1 ≤ k ∧ k ≤ 6) := fun k0 x ha hb h => by
    cases x with
    | inl f => exact bd f h
    | inr e => exact (tk k0 e ha hb).resolve_right (fun hn => hn h)
  by_cases h5 : letR (runeAt s q).1 = true
  · rw [if_pos h5] at hc; exact (tk _ _ (by omega) (by omega)).resolve_right (fun hn => hn hc)
  rw [if_neg h5] at hc
  by_cases h6 : digTest s q (runeAt s q).1 = true
  · rw [if_pos h6] at hc; exact (tk _ _ (by omega) (by omega)).resolve_right (fun hn => hn hc)
  rw [if_neg h6] at hc
  by_cases h7 : (runeAt s q).1 = 39
  · rw [if_pos h7] at hc; exact rs _ _ (by omega) (by omega) hc
  rw [if_neg h7] at hc
  by_cases h8 : (runeAt s q).1 = 34
  · rw [if_pos h8] at hc; exact rs _ _ (by omega) (by omega) hc
  rw [if_neg h8] at hc
  by_cases h9 : (runeAt s q).1 = 96
  · rw [if_pos h9] at hc; exact rs _ _ (by omega) (by omega) hc
  rw [if_neg h9] at hc
  by_cases h10 : (runeAt s q).1 = 59
  · rw [if_pos h10] at hc; exact (tk _ _ (by omega) (by omega)).resolve_right (fun hn => hn hc)
  rw [if_neg h10] at hc
  by_cases h11 : signN s q = 0
  · rw [if_pos h11] at hc; exact bd _ hc
  · rw [if_neg h11] at hc; exact (tk _ _ (by omega) (by omega)).resolve_right (fun hn => hn hc)

/-- What GolexSemis says of a row of tokens. -/
def SemAt (s : ByteArray) (t : Tk) (pr : Option Tk) : Prop :=
  (t.1 = 6 → t.2.1.size = 0 → ∃ u, pr = some u ∧ endsB u = true ∧ (s.size ≤ t.2.2 ∨ byt s t.2.2 = 10 ∨ byt s t.2.2 = 47)) ∧
  (t.1 = 0 → ∀ u, pr = some u → endsB u = false) ∧
  (¬ (t.1 = 6 ∧ t.2.1.size = 0) → t.1 ≠ 7 → ∀ u, pr = some u → endsB u = true → ∀ j, u.2.2 + u.2.1.size ≤ j → j < t.2.2 → byt s j ≠ 10) ∧ t.2.2 ≤ s.size
def SemOk (s : ByteArray) (l : List Tk) : Prop := ∀ i t, l[i]? = some t → SemAt s t (if i = 0 then none else l[i - 1]?)
theorem SemOk.snoc {s : ByteArray} {l : List Tk} (h : SemOk s l) {t : Tk} (ht : SemAt s t l.getLast?) : SemOk s (l ++ [t]) := by
  intro i u hu
  rcases Nat.lt_or_ge i l.length with hi | hi
  · rw [List.getElem?_append_left hi] at hu
    have := h i u hu
    by_cases h0 : i = 0
    · rw [if_pos h0] at this ⊢; exact this
    · rw [if_neg h0] at this ⊢
      rw [List.getElem?_append_left (by omega)]; exact this
  · rw [List.getElem?_append_right hi] at hu
    have h1 : i = l.length := by
      rcases Nat.eq_zero_or_pos (i - l.length) with h2 | h2
      · omega
      · rw [List.getElem?_eq_none (by simp; omega)] at hu; cases hu
    subst h1
    rw [Nat.sub_self] at hu
    simp only [List.getElem?_cons_zero, Option.some.injEq] at hu
    subst hu
    rw [List.getLast?_eq_getElem?] at ht
    by_cases h0 : l.length = 0
    · rw [if_pos h0]
      have : l = [] := List.eq_nil_of_length_eq_zero h0
      subst this; exact ht
    · rw [if_neg h0, List.getElem?_append_left (by omega)]; exact ht
theorem feed_sem {s : ByteArray} {l : List Tk} (h : SemOk s l) (q : Nat) (hq : q ≤ s.size) (hb : s.size ≤ q ∨ byt s q = 10 ∨ byt s q = 47) : SemOk s (feedL l q) := by
  unfold feedL
  cases hl : l.getLast? with
  | none => exact h
  | some t =>
    show SemOk s (if endsB t = true then l ++ [(6, (⟨#[]⟩ : ByteArray), q)] else l)
    by_cases he : endsB t = true
    · rw [if_pos he]
      refine h.snoc ⟨fun _ _ => ⟨t, hl, he, hb⟩, fun h => by (cases h), fun h => absurd ⟨rfl, rfl⟩ h, hq⟩
    · rw [if_neg he]; exact h
def Lst (s : ByteArray) (q : Nat) (l : List Tk) : Prop := ∀ u, l.getLast? = some u → endsB u = true → u.2.2 + u.2.1.size ≤ q ∧ ∀ j, u.2.2 + u.2.1.size ≤ j → j < q → byt s j ≠ 10
theorem Lst.nf {s : ByteArray} {q : Nat} {l : List Tk} (h : nfL l) : Lst s q l := fun u hu he => by rw [h u hu] at he; cases he
theorem Lst.to {s : ByteArray} {q : Nat} {l : List Tk} (h : Lst s q l) {e : Nat} (hq : q ≤ e) (hj : ∀ j, q ≤ j → j < e → byt s j ≠ 10) : Lst s e l := fun u hu he => by
  obtain ⟨h1, h2⟩ := h u hu he
  refine ⟨by omega, fun j h3 h4 => ?_⟩
  rcases Nat.lt_or_ge j q with h5 | h5
  · exact h2 j h3 h5
  · exact hj j h5 h4
theorem hasLF_false {s : ByteArray} {q e : Nat} (h : hasLF s q e = false) : ∀ j, q ≤ j → j < e → byt s j ≠ 10 := by
  intro j h1 h2 h3
  have : hasLF s q e = true := by
    unfold hasLF
    rw [List.any_eq_true]
    exact ⟨j - q, List.mem_range.2 (by omega), decide_eq_true (by rw [show q + (j - q) = j by omega]; exact h3)⟩
  rw [h] at this; cases this
theorem semis_ok (s : ByteArray) : ∀ q l m, q ≤ s.size → SemOk s l → Lst s q l → SemOk s (lexT s q l m).1 := by
  refine lex_ind s _ ?_ ?_ ?_
  · intro q l m h hq hs hl
    rw [lexT_out h]
    refine (feed_sem hs s.size (Nat.le_refl _) (.inl (Nat.le_refl _))).snoc ⟨fun h => by (cases h), fun _ u hu => nf_feed l _ u hu, fun _ _ u hu he => ?_, Nat.le_refl _⟩
    rw [nf_feed l _ u hu] at he; cases he
  · intro q l m f h ht hq hs hl
    rw [lexT_bad h ht]
    have hf := (thing_ends h).1 f ht
    exact hs.snoc ⟨fun h => by (cases h), fun h => by (cases h), fun _ h => absurd rfl h, by show f ≤ s.size; omega⟩
  · intro q l m h hok ih hq hs hl
    rw [lexT_step h hok]
    obtain ⟨he1, he2, he3⟩ := (thing_ends h).2 hok
    obtain ⟨s1, s2, s3, s4⟩ := th_spec h
    cases ht : thing s q with
    | bad f => rw [ht] at hok; cases hok
    | lf => rw [ht] at ih; exact ih h (feed_sem hs q hq (.inr (.inl (s1 ht)))) (.nf (nf_feed l q))
    | blank =>
      rw [ht] at ih
      have := s2 ht
      exact ih h hs (hl.to (by show q ≤ q + 1; omega) (fun j h1 h2 => by have h2 : j < q + 1 := h2; obtain rfl : j = q := by omega
                                                                         omega))
    | note e =>
      rw [ht] at ih he1 he2
      have he1 : q < e := he1
      refine ih he2 ?_ ?_
      · show SemOk s (if hasLF s q e = true then feedL l q else l)
        split
        · exact feed_sem hs q hq (.inr (.inr (s3 e ht)))
        · exact hs
      · show Lst s e (if hasLF s q e = true then feedL l q else l)
        by_cases hf : hasLF s q e = true
        · rw [if_pos hf]; exact .nf (nf_feed l q)
        · rw [if_neg hf]; exact hl.to (by omega) (hasLF_false (Bool.eq_false_iff.2 hf))
    | tok k e =>
      rw [ht] at ih he1 he2
      have he1 : q < e := he1
      have he2 : e ≤ s.size := he2
      have hsz : (s.extract q e).size = e - q := by rw [ByteArray.size_extract]; omega
      have hk := s4 k e ht
      refine ih he2 (hs.snoc ⟨fun _ h => ?_, fun h => ?_, fun _ _ u hu he => (hl u hu he).2, hq⟩) ?_
      · have h : (s.extract q e).size = 0 := h; omega
      · have h : k = 0 := h; omega
      · intro u hu he
        have hu : (l ++ [(k, s.extract q e, q)]).getLast? = some u := hu
        rw [List.getLast?_concat] at hu
        injection hu with hu
        subst hu
        show q + (s.extract q e).size ≤ e ∧ ∀ j, q + (s.extract q e).size ≤ j → j < e → _
        rw [hsz]
        exact ⟨by omega, fun j h1 h2 => by omega⟩

/-- Between a place and another one there are only blanks and line feeds. -/
def Gap (s : ByteArray) (a b : Nat) : Prop := ∀ j, a ≤ j → j < b → byt s j = 10 ∨ byt s j = 32 ∨ byt s j = 9 ∨ byt s j = 13
theorem Gap.one {s : ByteArray} {a q : Nat} (h : Gap s a q) (hb : byt s q = 10 ∨ byt s q = 32 ∨ byt s q = 9 ∨ byt s q = 13) : Gap s a (q + 1) := fun j h1 h2 => by
  rcases Nat.lt_or_ge j q with h3 | h3
  · exact h j h1 h3
  · obtain rfl : j = q := by omega
    exact hb
theorem Gap.nil {s : ByteArray} {a : Nat} : Gap s a a := fun j h1 h2 => by omega
def TkOk (s : ByteArray) (a : Nat) (t : Tk) : Prop := a ≤ t.2.2 ∧ t.2.2 + t.2.1.size ≤ s.size ∧ s.extract t.2.2 (t.2.2 + t.2.1.size) = t.2.1 ∧ Gap s a t.2.2
/-- What GolexCovers goes through: written tokens, and comments, by their places. -/
inductive CovL (s : ByteArray) : Nat → List Tk → List Tk → Nat → Prop
  | nil (a : Nat) : CovL s a [] [] a
  | tok (a F : Nat) (t : Tk) (W M : List Tk) (h1 : TkOk s a t) (h2 : ∀ u, M.head? = some u → t.2.2 < u.2.2) (h3 : CovL s (t.2.2 + t.2.1.size) W M F) : CovL s a (t :: W) M F
  | note (a F : Nat) (t : Tk) (W M : List Tk) (h1 : TkOk s a t) (h2 : ∀ u, W.head? = some u → ¬ u.2.2 < t.2.2) (h3 : CovL s (t.2.2 + t.2.1.size) W M F) : CovL s a W (t :: M) F
def writ (t : Tk) : Bool := decide (t.2.1.size ≠ 0)
theorem writ_empty {x : List Tk} (h : ∀ t ∈ x, t.2.1 = ⟨#[]⟩) : x.filter writ = [] := by
  rw [List.filter_eq_nil_iff]
  intro t ht hw
  have := of_decide_eq_true hw
  rw [h t ht] at this
  exact this rfl
theorem feedL_app2 (l : List Tk) (q : Nat) : ∃ x, feedL l q = l ++ x ∧ ∀ t ∈ x, t.2.1 = ⟨#[]⟩ ∧ t.2.2 = q := by
  unfold feedL
  cases l.getLast? with
  | none => exact ⟨[], by simp, by simp⟩
  | some t =>
    show ∃ x, (if endsB t = true then l ++ [(6, ⟨#[]⟩, q)] else l) = _ ∧ _
    split
    · exact ⟨_, rfl, by simp⟩
    · exact ⟨[], by simp, by simp⟩
structure Cov (s : ByteArray) (q : Nat) (l m : List Tk) (a : Nat) : Prop where
  f : ∃ x y t F, lexT s q l m = (l ++ x ++ [t], m ++ y) ∧ CovL s a (x.filter writ) y F ∧ (∀ u ∈ x, q ≤ u.2.2) ∧ (∀ u ∈ y, q ≤ u.2.2) ∧ t.2.1 = ⟨#[]⟩ ∧
    ((t.1 = 7 ∧ q ≤ t.2.2 ∧ (∀ u ∈ x, u.2.2 ≤ t.2.2) ∧ F ≤ t.2.2 ∧ t.2.2 ≤ s.size) ∨ (t.1 = 0 ∧ t.2.2 = s.size ∧ F ≤ s.size ∧ Gap s F s.size))
theorem covers_ok (s : ByteArray) : ∀ q l m, q ≤ s.size → ∀ a, a ≤ q → Gap s a q → Cov s q l m a := by
  refine lex_ind s _ ?_ ?_ ?_
  · intro q l m h hq a ha hg
    obtain rfl : q = s.size := by omega
    obtain ⟨x, hx, hx2⟩ := feedL_app2 l s.size
    refine ⟨x, [], (0, ⟨#[]⟩, s.size), a, by rw [lexT_out h, hx, List.append_nil], ?_, fun u hu => by rw [(hx2 u hu).2]; exact Nat.le_refl _, fun u hu => by (cases hu), rfl, .inr ⟨rfl, rfl, ha, hg⟩⟩
    rw [writ_empty (fun t ht => (hx2 t ht).1)]
    exact .nil a
  · intro q l m f h ht hq a ha hg
    have hf := (thing_ends h).1 f ht
    exact ⟨[], [], (7, ⟨#[]⟩, f), a, by rw [lexT_bad h ht, List.append_nil, List.append_nil], .nil a, fun u hu => by (cases hu), fun u hu => by (cases hu), rfl, .inl ⟨rfl, by show q ≤ f; omega, fun u hu => by (cases hu), by show a ≤ f; omega, by show f ≤ s.size; omega⟩⟩
  · intro q l m h hok ih hq a ha hg
    obtain ⟨he1, he2, he3⟩ := (thing_ends h).2 hok
    obtain ⟨s1, s2, s3, s4⟩ := th_spec h
    have hst := lexT_step h hok l m
    have pre_ : ∀ (z : List Tk) (a' : Nat) (l2 m2 : List Tk) (q2 : Nat), lexT s q l m = lexT s q2 l2 m2 → q ≤ q2 → l2 = l ++ z → m2 = m → (∀ t ∈ z, t.2.1 = ⟨#[]⟩ ∧ t.2.2 = q) → Cov s q2 l2 m2 a → Cov s q l m a := by
      intro z a' l2 m2 q2 h1 h2 h3 h4 h5 ⟨x, y, t, F, g1, g2, g3, g4, g5, g6⟩
      subst h3; subst h4
      refine ⟨z ++ x, y, t, F, by rw [h1, g1]; simp, by rw [List.filter_append, writ_empty (fun t ht => (h5 t ht).1)]; exact g2, ?_, fun u hu => by have := g4 u hu; omega, g5, ?_⟩
      · intro u hu
        rcases List.mem_append.1 hu with h | h
        · rw [(h5 u h).2]; exact Nat.le_refl _
        · have := g3 u h; omega
      · rcases g6 with ⟨k1, k0, k2, k3, k4⟩ | g6
        · left
          refine ⟨k1, by omega, fun u hu => ?_, k3, k4⟩
          rcases List.mem_append.1 hu with h | h
          · rw [(h5 u h).2]; omega
          · exact k2 u h
        · exact .inr g6
    cases ht : thing s q with
    | bad f => rw [ht] at hok; cases hok
    | lf =>
      rw [ht] at ih hst
      obtain ⟨z, hz, hz2⟩ := feedL_app2 l q
      exact pre_ z a _ _ (q + 1) hst (by omega) hz rfl hz2 (ih h a (by show a ≤ q + 1; omega) (hg.one (.inl (s1 ht))))
    | blank =>
      rw [ht] at ih hst
      exact pre_ [] a _ _ (q + 1) hst (by omega) (by simp [lNext]) rfl (by simp) (ih h a (by show a ≤ q + 1; omega) (hg.one (.inr (s2 ht))))
    | note e =>
      rw [ht] at ih hst he1 he2
      have he1 : q < e := he1
      have he2 : e ≤ s.size := he2
      have hsz : (s.extract q e).size = e - q := by rw [ByteArray.size_extract]; omega
      have eqe : q + (s.extract q e).size = e := by rw [hsz]; omega
      obtain ⟨z, hz, hz2⟩ : ∃ z, (if hasLF s q e = true then feedL l q else l) = l ++ z ∧ ∀ t ∈ z, t.2.1 = ⟨#[]⟩ ∧ t.2.2 = q := by
        split
        · exact feedL_app2 l q
        · exact ⟨[], by simp, by simp⟩
      have hst : lexT s q l m = lexT s e (l ++ z) (m ++ [(0, s.extract q e, q)]) := by rw [← hz]; exact hst
      have ih : Cov s e (l ++ z) (m ++ [(0, s.extract q e, q)]) e := by rw [← hz]; exact ih he2 e (Nat.le_refl _) .nil
      obtain ⟨x, y, t, F, g1, g2, g3, g4, g5, g6⟩ := ih
      refine ⟨z ++ x, (0, s.extract q e, q) :: y, t, F, by rw [hst, g1]; simp, ?_, ?_, ?_, g5, ?_⟩
      · rw [List.filter_append, writ_empty (fun t ht => (hz2 t ht).1)]
        refine .note a F _ _ _ ⟨ha, by show q + (s.extract q e).size ≤ _; omega, by show s.extract q (q + (s.extract q e).size) = _; rw [eqe], hg⟩ (fun u hu => ?_) (by show CovL s (q + (s.extract q e).size) _ _ _; rw [eqe]; exact g2)
        have hu : u ∈ x.filter writ := List.mem_of_mem_head? hu
        have := g3 u (List.mem_filter.1 hu).1
        show ¬ u.2.2 < q
        omega
      · intro u hu
        rcases List.mem_append.1 hu with h | h
        · rw [(hz2 u h).2]; exact Nat.le_refl _
        · have := g3 u h; omega
      · intro u hu
        rcases List.mem_cons.1 hu with h | h
        · rw [h]; exact Nat.le_refl _
        · have := g4 u h; omega
      · rcases g6 with ⟨k1, k0, k2, k3, k4⟩ | g6
        · left
          refine ⟨k1, by omega, fun u hu => ?_, k3, k4⟩
          rcases List.mem_append.1 hu with h | h
          · rw [(hz2 u h).2]; omega
          · exact k2 u h
        · exact .inr g6
    | tok k e =>
      rw [ht] at ih hst he1 he2
      have he1 : q < e := he1
      have he2 : e ≤ s.size := he2
      have hsz : (s.extract q e).size = e - q := by rw [ByteArray.size_extract]; omega
      have eqe : q + (s.extract q e).size = e := by rw [hsz]; omega
      have hst : lexT s q l m = lexT s e (l ++ [(k, s.extract q e, q)]) m := hst
      have ih : Cov s e (l ++ [(k, s.extract q e, q)]) m e := ih he2 e (Nat.le_refl _) .nil
      obtain ⟨x, y, t, F, g1, g2, g3, g4, g5, g6⟩ := ih
      refine ⟨(k, s.extract q e, q) :: x, y, t, F, by rw [hst, g1]; simp, ?_, ?_, ?_, g5, ?_⟩
      · rw [List.filter_cons_of_pos (by unfold writ; rw [hsz]; exact decide_eq_true (by omega))]
        refine .tok a F _ _ _ ⟨ha, by show q + (s.extract q e).size ≤ _; omega, by show s.extract q (q + (s.extract q e).size) = _; rw [eqe], hg⟩ (fun u hu => ?_) (by show CovL s (q + (s.extract q e).size) _ _ _; rw [eqe]; exact g2)
        have := g4 u (List.mem_of_mem_head? hu)
        show q < u.2.2
        omega
      · intro u hu
        rcases List.mem_cons.1 hu with h | h
        · rw [h]; exact Nat.le_refl _
        · have := g3 u h; omega
      · intro u hu
        have := g4 u hu; omega
      · rcases g6 with ⟨k1, k0, k2, k3, k4⟩ | g6
        · left
          refine ⟨k1, by omega, fun u hu => ?_, k3, k4⟩
          rcases List.mem_cons.1 hu with h | h
          · rw [h]; show q ≤ t.2.2; omega
          · exact k2 u h
        · exact .inr g6
end Go.Proofs.YtejogobhnbjpdaaDoor
