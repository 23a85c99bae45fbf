/- The theory of tokens: comments, texts between quotes, signs; what stands at a place, at another place. -/
import Derived.Test.YtejogobhnbjpdaaDoorGu
namespace Go.Proofs.YtejogobhnbjpdaaDoor
set_option linter.unusedVariables false
set_option linter.unusedSimpArgs false

theorem line_ge (s : ByteArray) : ∀ (n q : Nat), s.size - q ≤ n → q ≤ s.size → (∀ e, lineR s q = .inr e → q ≤ e ∧ e ≤ s.size) ∧ (∀ f, lineR s q = .inl f → q ≤ f ∧ f < s.size) := by
  intro n
  induction n with
  | zero =>
    intro q hn hq; rw [lineR, dif_neg (by omega)]
    exact ⟨fun e h => by injection h with h; omega, fun f h => by cases h⟩
  | succ n ih =>
    intro q hn hq
    rw [lineR]
    split <;> rename_i h
    · have hr := runeAt_range s q h
      split
      · exact ⟨fun e h => by injection h with h; omega, fun f h => by cases h⟩
      · split
        · exact ⟨fun e h => by (cases h), fun f h => by injection h with h; omega⟩
        · have := ih (q + (runeAt s q).2) (by omega) (by omega)
          exact ⟨fun e he => by have := this.1 e he; omega, fun f hf => by have := this.2 f hf; omega⟩
    · exact ⟨fun e h => by injection h with h; omega, fun f h => by cases h⟩
theorem line_end (s : ByteArray) : ∀ (n q e : Nat), s.size - q ≤ n → q ≤ s.size → lineR s q = .inr e → (e = s.size ∨ byt s e = 10) ∧ (∀ j, q ≤ j → j < e → byt s j ≠ 10) := by
  intro n
  induction n with
  | zero =>
    intro q e hn hq h; rw [lineR, dif_neg (by omega)] at h
    injection h with h
    exact ⟨.inl (by omega), fun j h1 h2 => by omega⟩
  | succ n ih =>
    intro q e hn hq h
    by_cases hlt : q < s.size
    · have hr := runeAt_range s q hlt
      rw [lineR, dif_pos hlt] at h
      by_cases h10 : (runeAt s q).1 = 10
      · rw [if_pos h10] at h
        injection h with h
        subst h
        exact ⟨.inr ((rune_byte hlt 10 (by omega) (by omega)).1 h10), fun j h1 h2 => by omega⟩
      · rw [if_neg h10] at h
        by_cases h0 : (runeAt s q).1 < 0
        · rw [if_pos h0] at h; cases h
        · rw [if_neg h0] at h
          have := ih _ e (by omega) (by omega) h
          refine ⟨this.1, fun j h1 h2 => ?_⟩
          rcases Nat.lt_or_ge j (q + (runeAt s q).2) with h3 | h3
          · rcases rune_tail hlt (by omega) with h4 | h4
            · obtain rfl : j = q := by omega
              exact fun h5 => h10 ((rune_byte hlt 10 (by omega) (by omega)).2 h5)
            · have := h4 (j - q) (by omega) (by omega)
              rw [show q + (j - q) = j by omega] at this
              omega
          · exact this.2 j h3 h2
    · rw [lineR, dif_neg hlt] at h
      injection h with h
      exact ⟨.inl (by omega), fun j h1 h2 => by omega⟩
theorem line_loc {s s' : ByteArray} : ∀ (n q q' e : Nat), s.size - q ≤ n → q ≤ s.size → Okm s q q' → lineR s q = .inr e → Ag s s' q q' (e - q) → q' + (e - q) < s'.size → byt s' (q' + (e - q)) = 10 → lineR s' q' = .inr (q' + (e - q)) := by
  intro n
  have stop : ∀ q', q' < s'.size → byt s' q' = 10 → lineR s' q' = .inr q' := fun q' h1 h2 => by
    have h3 : (runeAt s' q').1 = 10 := (rune_byte h1 10 (by omega) (by omega)).2 h2
    rw [lineR, dif_pos h1, if_pos h3]
  induction n with
  | zero =>
    intro q q' e hn hq hm h ha h1 h2
    have hge := (line_ge s _ q (Nat.le_refl _) hq).1 e h
    obtain rfl : e = q := by omega
    rw [Nat.sub_self, Nat.add_zero] at h1 h2 ⊢
    exact stop _ h1 h2
  | succ n ih =>
    intro q q' e hn hq hm h ha h1 h2
    have hge := (line_ge s _ q (Nat.le_refl _) hq).1 e h
    by_cases heq : e = q
    · subst heq
      rw [Nat.sub_self, Nat.add_zero] at h1 h2 ⊢
      exact stop _ h1 h2
    · have hlt : q < s.size := by omega
      have hr := runeAt_range s q hlt
      rw [lineR, dif_pos hlt] at h
      by_cases h10 : (runeAt s q).1 = 10
      · rw [if_pos h10] at h; injection h with h; omega
      · rw [if_neg h10] at h
        by_cases h0 : (runeAt s q).1 < 0
        · rw [if_pos h0] at h; cases h
        · rw [if_neg h0] at h
          have hge2 := (line_ge s _ _ (Nat.le_refl _) (by omega)).1 e h
          have er := rune_loc hlt (by omega) (ha.le (by omega)) hm
          rw [lineR, dif_pos (by have := ha.2.1; omega), er, if_neg h10, if_neg h0]
          have e3 : q' + (e - q) = q' + (runeAt s q).2 + (e - (q + (runeAt s q).2)) := by omega
          rw [e3] at h1 h2 ⊢
          exact ih _ _ e (by omega) (by omega) (hm.add _) h (ha.sub _ _ (by omega)) h1 h2

theorem closed_ge (s : ByteArray) (last : List UInt8) (a : Nat) : ∀ (n q : Nat), s.size - q ≤ n → (∀ e, closedR s last a q = .inr e → q + last.length ≤ e ∧ e ≤ s.size ∧ q < s.size) ∧ (∀ f, closedR s last a q = .inl f → f = a ∨ (q ≤ f ∧ f < s.size)) := by
  intro n
  induction n with
  | zero =>
    intro q hn; rw [closedR, dif_neg (by omega)]
    exact ⟨fun e h => by (cases h), fun f h => by (injection h with h; exact .inl h.symm)⟩
  | succ n ih =>
    intro q hn
    rw [closedR]
    split <;> rename_i h
    · have hr := runeAt_range s q h
      split
      · exact ⟨fun e h => by (cases h), fun f h => by (injection h with h; exact .inr (by omega))⟩
      · split <;> rename_i hp
        · have := (pre_iff s q last (by omega)).1 hp
          exact ⟨fun e h => by (injection h with h; omega), fun f h => by (cases h)⟩
        · have := ih (q + (runeAt s q).2) (by omega)
          exact ⟨fun e he => by (have := this.1 e he; omega), fun f hf => by (rcases this.2 f hf with h | h <;> omega)⟩
    · exact ⟨fun e h => by (cases h), fun f h => by (injection h with h; exact .inl h.symm)⟩
theorem pre_low {s : ByteArray} {q : Nat} {y : UInt8} {t : List UInt8} (hq : q < s.size) (hp : pre s q (y :: t) = true) (h0 : 0 < y.toNat) (h1 : y.toNat < 128) : runeAt s q = ((y.toNat : Int), 1) := by
  have := ((pre_iff s q _ (by omega)).1 hp).2 0 (by simp)
  simp at this
  exact rune_low hq this.symm h0 h1
theorem closed_loc {s s' : ByteArray} {y : UInt8} {t : List UInt8} {a a' : Nat} (hy0 : 0 < y.toNat) (hy1 : y.toNat < 128) : ∀ (n q q' e : Nat), s.size - q ≤ n → Okm s q q' → closedR s (y :: t) a q = .inr e → Ag s s' q q' (e - q) → closedR s' (y :: t) a' q' = .inr (q' + (e - q)) := by
  intro n
  induction n with
  | zero => intro q q' e hn hm h ha; rw [closedR, dif_neg (by omega)] at h; cases h
  | succ n ih =>
    intro q q' e hn hm h ha
    have hge := (closed_ge s (y :: t) a _ q (Nat.le_refl _)).1 e h
    have hlt := hge.2.2
    have hr := runeAt_range s q hlt
    rw [closedR, dif_pos hlt] at h
    by_cases h0 : (runeAt s q).1 < 0
    · rw [if_pos h0] at h; cases h
    · rw [if_neg h0] at h
      have hp' := pre_ag (ha.le (show (y :: t).length ≤ e - q by omega))
      by_cases hp : pre s q (y :: t) = true
      · rw [if_pos hp] at h
        injection h with h
        have hl : (runeAt s q).2 ≤ e - q := by rw [pre_low hlt hp hy0 hy1]; simp only [List.length_cons] at hge; omega
        have er := rune_loc hlt (by omega) (ha.le hl) hm
        rw [closedR, dif_pos (by have := ha.2.1; omega), er, if_neg h0, hp', if_pos hp]
        congr 1; omega
      · rw [if_neg hp] at h
        have hge2 := (closed_ge s (y :: t) a _ _ (Nat.le_refl _)).1 e h
        have er := rune_loc hlt (by omega) (ha.le (by omega)) hm
        rw [closedR, dif_pos (by have := ha.2.1; omega), er, if_neg h0, hp', if_neg hp]
        have e3 : q' + (e - q) = q' + (runeAt s q).2 + (e - (q + (runeAt s q).2)) := by omega
        rw [e3]
        exact ih _ _ e (by omega) (hm.add _) h (ha.sub _ _ (by omega))

theorem quot_ge (s : ByteArray) (qt a : Nat) : ∀ (n q : Nat) (bh : Bool), s.size - q ≤ n → (∀ e, quotR s qt a q bh = .inr e → q + 1 ≤ e ∧ e ≤ s.size) ∧ (∀ f, quotR s qt a q bh = .inl f → f = a ∨ (q ≤ f ∧ f < s.size)) := by
  intro n
  induction n with
  | zero =>
    intro q bh hn; rw [quotR, dif_neg (by omega)]
    exact ⟨fun e h => by (cases h), fun f h => by (injection h with h; exact .inl h.symm)⟩
  | succ n ih =>
    intro q bh hn
    rw [quotR]
    split <;> rename_i h
    · have hr := runeAt_range s q h
      split
      · exact ⟨fun e h => by (cases h), fun f h => by (injection h with h; exact .inl h.symm)⟩
      · split
        · exact ⟨fun e h => by (cases h), fun f h => by (injection h with h; exact .inr (by omega))⟩
        · split
          · split
            · exact ⟨fun e h => by (cases h), fun f h => by (injection h with h; exact .inl h.symm)⟩
            · exact ⟨fun e h => by (injection h with h; omega), fun f h => by (cases h)⟩
          · have := ih (q + (runeAt s q).2) (decide ((runeAt s q).1 = 92) && !bh) (by omega)
            exact ⟨fun e he => by (have := this.1 e he; omega), fun f hf => by (rcases this.2 f hf with h | h <;> omega)⟩
    · exact ⟨fun e h => by (cases h), fun f h => by (injection h with h; exact .inl h.symm)⟩
theorem quot_loc {s s' : ByteArray} {qt a a' : Nat} (h0 : 0 < qt) (h1 : qt < 128) : ∀ (n q q' e : Nat) (bh : Bool), s.size - q ≤ n → q + a' = q' + a → Okm s q q' → quotR s qt a q bh = .inr e → Ag s s' q q' (e - q) → quotR s' qt a' q' bh = .inr (q' + (e - q)) := by
  intro n
  induction n with
  | zero => intro q q' e bh hn haa hm h ha; rw [quotR, dif_neg (by omega)] at h; cases h
  | succ n ih =>
    intro q q' e bh hn haa hm h ha
    have hge := (quot_ge s qt a _ q bh (Nat.le_refl _)).1 e h
    have hlt : q < s.size := by omega
    have hr := runeAt_range s q hlt
    rw [quotR, dif_pos hlt] at h
    by_cases h10 : (runeAt s q).1 = 10
    · rw [if_pos h10] at h; cases h
    rw [if_neg h10] at h
    by_cases hn0 : (runeAt s q).1 < 0
    · rw [if_pos hn0] at h; cases h
    rw [if_neg hn0] at h
    by_cases hc : (runeAt s q).1 = (qt : Int) ∧ bh = false
    · rw [if_pos hc] at h
      by_cases h39 : qt = 39 ∧ q = a + 1
      · rw [if_pos h39] at h; cases h
      · rw [if_neg h39] at h
        injection h with h
        have h2 := rune_one hlt h0 h1 hc.1
        have er := rune_loc hlt (by omega) (ha.le (by omega)) hm
        rw [quotR, dif_pos (by have := ha.2.1; omega), er, if_neg h10, if_neg hn0, if_pos hc, if_neg (fun x => h39 ⟨x.1, by omega⟩)]
        congr 1; omega
    · rw [if_neg hc] at h
      have hge2 := (quot_ge s qt a _ _ _ (Nat.le_refl _)).1 e h
      have er := rune_loc hlt (by omega) (ha.le (by omega)) hm
      rw [quotR, dif_pos (by have := ha.2.1; omega), er, if_neg h10, if_neg hn0, if_neg hc]
      have e3 : q' + (e - q) = q' + (runeAt s q).2 + (e - (q + (runeAt s q).2)) := by omega
      rw [e3]
      exact ih _ _ e _ (by omega) (by omega) (hm.add _) h (ha.sub _ _ (by omega))

theorem lf_ag {s s' : ByteArray} {q q' n : Nat} (h : Ag s s' q q' n) : hasLF s' q' (q' + n) = hasLF s q (q + n) := by
  unfold hasLF
  rw [Nat.add_sub_cancel_left, Nat.add_sub_cancel_left, Bool.eq_iff_iff]
  simp only [List.any_eq_true, List.mem_range, decide_eq_true_eq]
  exact ⟨fun ⟨x, h1, h2⟩ => ⟨x, h1, by rw [← h.at h1]; exact h2⟩, fun ⟨x, h1, h2⟩ => ⟨x, h1, by rw [h.at h1]; exact h2⟩⟩
theorem ext_get (s : ByteArray) (q n i : Nat) (h : q + n ≤ s.size) : (s.extract q (q + n)).data.toList[i]? = if i < n then some (s.get! (q + i)) else none := by
  rw [Lib.extract_data, Nat.add_sub_cancel_left, List.getElem?_take]
  split
  · rw [List.getElem?_drop, byt_list (by omega)]
  · rfl
theorem ext_ag {s s' : ByteArray} {q q' n : Nat} (h : Ag s s' q q' n) : s'.extract q' (q' + n) = s.extract q (q + n) := by
  have : (s'.extract q' (q' + n)).data.toList = (s.extract q (q + n)).data.toList := by
    apply List.ext_getElem?
    intro i
    rw [ext_get s q n i h.1, ext_get s' q' n i h.2.1]
    split
    · congr 1
      exact UInt8.toNat_inj.1 (h.at (by omega))
    · rfl
  exact ByteArray.ext (Array.ext' this)
theorem ext_len (s : ByteArray) (q n : Nat) (h : q + n ≤ s.size) : (s.extract q (q + n)).data.toList.length = n := by
  rw [← Lib.size_eq, ByteArray.size_extract]; omega
def sgB (s : ByteArray) (q k : Nat) : Prop := k ≤ s.size - q ∧ signs.contains (s.extract q (q + k)).data.toList = true
theorem sg_ag {s s' : ByteArray} {q q' k : Nat} (h : Ag s s' q q' k) : sgB s' q' k ↔ sgB s q k := by
  unfold sgB
  rw [ext_ag h]
  have := h.1; have := h.2.1
  exact ⟨fun x => ⟨by omega, x.2⟩, fun x => ⟨by omega, x.2⟩⟩
theorem signN_eq (s : ByteArray) (q : Nat) : (sgB s q 3 ∧ signN s q = 3) ∨ (¬ sgB s q 3 ∧ sgB s q 2 ∧ signN s q = 2) ∨ (¬ sgB s q 3 ∧ ¬ sgB s q 2 ∧ sgB s q 1 ∧ signN s q = 1) ∨ (¬ sgB s q 3 ∧ ¬ sgB s q 2 ∧ ¬ sgB s q 1 ∧ signN s q = 0) := by
  by_cases h3 : sgB s q 3
  · exact .inl ⟨h3, if_pos h3⟩
  by_cases h2 : sgB s q 2
  · exact .inr (.inl ⟨h3, h2, (if_neg h3).trans (if_pos h2)⟩)
  by_cases h1 : sgB s q 1
  · exact .inr (.inr (.inl ⟨h3, h2, h1, (if_neg h3).trans ((if_neg h2).trans (if_pos h1))⟩))
  · exact .inr (.inr (.inr ⟨h3, h2, h1, (if_neg h3).trans ((if_neg h2).trans (if_neg h1))⟩))
theorem signs_ok : ∀ x ∈ signs, (∀ y ∈ x, 33 ≤ y.toNat ∧ y.toNat < 127) ∧ (x.length = 3 → signs.contains (x.take 2) = true ∨ x = [46, 46, 46]) := by decide +kernel
theorem sg_byte {s : ByteArray} {q k : Nat} (h : sgB s q k) {i : Nat} (hi : i < k) : 33 ≤ byt s (q + i) ∧ byt s (q + i) < 127 := by
  have h1 := h.1
  have h2 := (signs_ok _ (List.contains_iff_mem.1 h.2)).1 (s.get! (q + i)) (by
    have := ext_get s q k i (by omega)
    rw [if_pos hi] at this
    exact List.mem_of_getElem? this)
  exact h2
theorem sg_three {s : ByteArray} {q : Nat} (h : sgB s q 3) : sgB s q 2 ∨ (byt s q = 46 ∧ byt s (q + 1) = 46 ∧ byt s (q + 2) = 46) := by
  have h1 := h.1
  rcases (signs_ok _ (List.contains_iff_mem.1 h.2)).2 (ext_len s q 3 (by omega)) with h2 | h2
  · left
    refine ⟨by omega, ?_⟩
    rw [show (s.extract q (q + 2)).data.toList = (s.extract q (q + 3)).data.toList.take 2 from ?_]
    · exact h2
    · apply List.ext_getElem?
      intro i
      rw [List.getElem?_take, ext_get s q 2 i (by omega), ext_get s q 3 i (by omega)]
      by_cases hi : i < 2
      · rw [if_pos hi, if_pos hi, if_pos (by omega)]
      · rw [if_neg hi, if_neg hi]
  · right
    have g : ∀ i, i < 3 → byt s (q + i) = 46 := fun i hi => by
      have := ext_get s q 3 i (by omega)
      rw [if_pos hi, h2] at this
      unfold byt
      rcases (by omega : i = 0 ∨ i = 1 ∨ i = 2) with rfl | rfl | rfl <;> (simp only [List.getElem?_cons_zero, List.getElem?_cons_succ, Option.some.injEq] at this; rw [← this]; rfl)
    exact ⟨g 0 (by omega), g 1 (by omega), g 2 (by omega)⟩
end Go.Proofs.YtejogobhnbjpdaaDoor
