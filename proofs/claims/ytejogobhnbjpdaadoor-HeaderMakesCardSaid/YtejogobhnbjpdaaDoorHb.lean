/- The theory of tokens: the document's longest sign. -/
import Derived.Test.YtejogobhnbjpdaaDoorHa
namespace Go.Proofs.YtejogobhnbjpdaaDoor
set_option linter.unusedVariables false
set_option linter.unusedSimpArgs false

theorem pre_ext {s : ByteArray} {q : Nat} (hq : q ≤ s.size) (x : List UInt8) : pre s q x = true ↔ q + x.length ≤ s.size ∧ (s.extract q (q + x.length)).data.toList = x := by
  rw [pre_iff s q x hq]
  constructor
  · rintro ⟨h1, h2⟩
    refine ⟨h1, ?_⟩
    apply List.ext_getElem?
    intro i
    rw [ext_get s q x.length i h1]
    split
    · rename_i hi
      have := h2 i hi
      rw [List.getElem?_eq_getElem hi] at this ⊢
      simp only [Option.map_some, Option.some.injEq, byt] at this
      rw [UInt8.toNat_inj.1 this]
    · rename_i hi
      rw [List.getElem?_eq_none (by omega)]
  · rintro ⟨h1, h2⟩
    refine ⟨h1, fun j hj => ?_⟩
    have := ext_get s q x.length j h1
    rw [if_pos hj, h2] at this
    rw [this]; rfl
theorem pre_sg {s : ByteArray} {q k : Nat} (hq : q ≤ s.size) : sgB s q k ↔ ∃ x ∈ signs, x.length = k ∧ pre s q x = true := by
  constructor
  · rintro ⟨h1, h2⟩
    have hl := ext_len s q k (by omega)
    refine ⟨_, List.contains_iff_mem.1 h2, hl, (pre_ext hq _).2 ?_⟩
    rw [hl]; exact ⟨by omega, rfl⟩
  · rintro ⟨x, h1, h2, h3⟩
    obtain ⟨h4, h5⟩ := (pre_ext hq x).1 h3
    rw [h2] at h4 h5
    exact ⟨by omega, by rw [h5]; exact List.contains_iff_mem.2 h1⟩
def bestF (s : ByteArray) (q : Nat) (best : Nat) (x : List UInt8) : Nat := if (pre s q x && decide (best < x.length)) = true then x.length else best
def bestN (s : ByteArray) (q : Nat) (l : List (List UInt8)) : Nat := l.foldl (bestF s q) 0
theorem best_le (s : ByteArray) (q : Nat) : ∀ (l : List (List UInt8)) (b : Nat), b ≤ l.foldl (bestF s q) b ∧ (∀ x ∈ l, pre s q x = true → x.length ≤ l.foldl (bestF s q) b) ∧ (l.foldl (bestF s q) b = b ∨ ∃ x ∈ l, pre s q x = true ∧ x.length = l.foldl (bestF s q) b)
  | [], b => ⟨Nat.le_refl _, fun x h => by (cases h), .inl rfl⟩
  | y :: l, b => by
    obtain ⟨h1, h2, h3⟩ := best_le s q l (bestF s q b y)
    have hb : b ≤ bestF s q b y ∧ (pre s q y = true → y.length ≤ bestF s q b y) ∧ (bestF s q b y = b ∨ (pre s q y = true ∧ y.length = bestF s q b y)) := by
      unfold bestF
      by_cases h : (pre s q y && decide (b < y.length)) = true
      · rw [if_pos h]
        rw [Bool.and_eq_true, decide_eq_true_eq] at h
        exact ⟨by omega, fun _ => Nat.le_refl _, .inr ⟨h.1, rfl⟩⟩
      · rw [if_neg h]
        rw [Bool.and_eq_true, decide_eq_true_eq] at h
        exact ⟨Nat.le_refl _, fun hp => Nat.le_of_not_lt (fun hx => h ⟨hp, hx⟩), .inl rfl⟩
    rw [List.foldl_cons]
    refine ⟨by omega, fun x hx hp => ?_, ?_⟩
    · rcases List.mem_cons.1 hx with rfl | hx
      · have := hb.2.1 hp; omega
      · exact h2 x hx hp
    · rcases h3 with h3 | ⟨x, hx, hp, hl⟩
      · rcases hb.2.2 with h4 | ⟨h4, h5⟩
        · exact .inl (h3.trans h4)
        · exact .inr ⟨y, List.mem_cons_self, h4, h5.trans h3.symm⟩
      · exact .inr ⟨x, List.mem_cons_of_mem _ hx, hp, hl⟩
theorem signs_len : ∀ x ∈ signs, 1 ≤ x.length ∧ x.length ≤ 3 := by decide +kernel
theorem best_sign {s : ByteArray} {q : Nat} (hq : q ≤ s.size) : bestN s q signs = signN s q := by
  obtain ⟨_, h2, h3⟩ := best_le s q signs 0
  have hle : ∀ k, sgB s q k → k ≤ bestN s q signs := fun k hk => by
    obtain ⟨x, hx, hl, hp⟩ := (pre_sg hq).1 hk
    rw [← hl]; exact h2 x hx hp
  have hex : bestN s q signs = 0 ∨ (sgB s q (bestN s q signs) ∧ 1 ≤ bestN s q signs ∧ bestN s q signs ≤ 3) := by
    rcases h3 with h3 | ⟨x, hx, hp, hl⟩
    · exact .inl h3
    · have hl : x.length = bestN s q signs := hl
      have := signs_len x hx
      exact .inr ⟨(pre_sg hq).2 ⟨x, hx, hl, hp⟩, by omega, by omega⟩
  generalize bestN s q signs = B at *
  rcases signN_eq s q with ⟨a, e⟩ | ⟨a3, a, e⟩ | ⟨a3, a2, a, e⟩ | ⟨a3, a2, a1, e⟩
  · have := hle 3 a
    rcases hex with h | h <;> omega
  · have := hle 2 a
    rcases hex with h | h
    · omega
    · by_cases h3 : B = 3
      · rw [h3] at h; exact absurd h.1 a3
      · omega
  · have := hle 1 a
    rcases hex with h | h
    · omega
    · by_cases h3 : B = 3
      · rw [h3] at h; exact absurd h.1 a3
      · by_cases h4 : B = 2
        · rw [h4] at h; exact absurd h.1 a2
        · omega
  · rcases hex with h | h
    · omega
    · by_cases h3 : B = 3
      · rw [h3] at h; exact absurd h.1 a3
      · by_cases h4 : B = 2
        · rw [h4] at h; exact absurd h.1 a2
        · obtain rfl : B = 1 := by omega
          exact absurd h.1 a1
/-- A line's comment has no line feed. -/
theorem line_no_lf {s : ByteArray} {q e : Nat} (hq : q ≤ s.size) (h : lineR s q = .inr e) : hasLF s q e = false := by
  apply Bool.eq_false_iff.2
  intro hx
  unfold hasLF at hx
  rw [List.any_eq_true] at hx
  obtain ⟨i, hi, hb⟩ := hx
  have := List.mem_range.1 hi
  exact (line_end s _ q e (Nat.le_refl _) hq h).2 (q + i) (by omega) (by omega) (of_decide_eq_true hb)
theorem hasLF_split {s : ByteArray} {a q e : Nat} (h1 : a ≤ q) (h2 : q ≤ e) : hasLF s a e = (hasLF s a q || hasLF s q e) := by
  rw [Bool.eq_iff_iff, Bool.or_eq_true]
  unfold hasLF
  simp only [List.any_eq_true, List.mem_range, decide_eq_true_eq]
  constructor
  · rintro ⟨i, hi, hb⟩
    by_cases h : a + i < q
    · exact .inl ⟨i, by omega, hb⟩
    · exact .inr ⟨a + i - q, by omega, by rw [show q + (a + i - q) = a + i by omega]; exact hb⟩
  · rintro (⟨i, hi, hb⟩ | ⟨i, hi, hb⟩)
    · exact ⟨i, by omega, hb⟩
    · exact ⟨q + i - a, by omega, by rw [show a + (q + i - a) = q + i by omega]; exact hb⟩
/-- Of a sign's bytes one is a line feed just if it is one. -/
theorem hasLF_rune {s : ByteArray} {q : Nat} (hq : q < s.size) (h0 : 0 ≤ (runeAt s q).1) : hasLF s q (q + (runeAt s q).2) = decide ((runeAt s q).1 = 10) := by
  have hr := runeAt_range s q hq
  rw [Bool.eq_iff_iff, decide_eq_true_eq]
  unfold hasLF
  simp only [List.any_eq_true, List.mem_range, decide_eq_true_eq]
  constructor
  · rintro ⟨i, hi, hb⟩
    rcases rune_tail hq h0 with h | h
    · obtain rfl : i = 0 := by omega
      exact (rune_byte hq 10 (by omega) (by omega)).2 hb
    · have := h i (by omega) (by omega); omega
  · intro h
    exact ⟨0, by omega, (rune_byte hq 10 (by omega) (by omega)).1 h⟩
end Go.Proofs.YtejogobhnbjpdaaDoor
