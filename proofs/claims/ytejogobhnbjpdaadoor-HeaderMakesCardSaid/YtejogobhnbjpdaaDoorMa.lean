/- Plain: the document's sign is Go's. -/
import Derived.Test.YtejogobhnbjpdaaDoorWd
namespace Go.Proofs.YtejogobhnbjpdaaDoor

theorem ba_ext {a b : ByteArray} (h : a.data.toList = b.data.toList) : a = b := ByteArray.ext (Array.toList_inj.1 h)
theorem get_list (t : ByteArray) (j : Nat) : t.get! j = (t.data.toList[j]?).getD default := by
  show t.data[j]! = _
  rw [getElem!_def, Array.getElem?_toList]
  cases t.data[j]? <;> rfl

/-- A sign's bytes, as natural numbers. -/
def encN (r : Nat) : List Nat :=
  if r < 128 then [r]
  else if r < 2048 then [192 + r / 64, 128 + r % 64]
  else if r < 65536 then [224 + r / 4096, 128 + r / 64 % 64, 128 + r % 64]
  else [240 + r / 262144, 128 + r / 4096 % 64, 128 + r / 64 % 64, 128 + r % 64]

theorem enc_nat (r : Nat) (h : r ≤ 1114111) : (encB r).data.toList.map UInt8.toNat = encN r := by
  have key : ∀ x : Int, 0 ≤ x → x < 256 → (UInt8.ofNat x.toNat).toNat = x.toNat := fun x h0 h1 => by simp; omega
  unfold encB encI encN
  rcases (by omega : r < 128 ∨ (128 ≤ r ∧ r < 2048) ∨ (2048 ≤ r ∧ r < 65536) ∨ 65536 ≤ r) with h1 | ⟨h1, h2⟩ | ⟨h1, h2⟩ | h1
  · rw [if_pos h1, if_pos h1, strOfNums_data]
    simp only [List.map_cons, List.map_nil]
    rw [key _ (by omega) (by omega)]
    simp
  · rw [if_neg (by omega), if_pos h2, if_neg (by omega), if_pos h2, strOfNums_data]
    simp only [List.map_cons, List.map_nil]
    rw [key _ (by omega) (by omega), key _ (by omega) (by omega)]
    simp only [List.cons.injEq, and_true]
    omega
  · rw [if_neg (by omega), if_neg (by omega), if_pos h2, if_neg (by omega), if_neg (by omega), if_pos h2, strOfNums_data]
    simp only [List.map_cons, List.map_nil]
    rw [key _ (by omega) (by omega), key _ (by omega) (by omega), key _ (by omega) (by omega)]
    simp only [List.cons.injEq, and_true]
    omega
  · rw [if_neg (by omega), if_neg (by omega), if_neg (by omega), if_neg (by omega), if_neg (by omega), if_neg (by omega), strOfNums_data]
    simp only [List.map_cons, List.map_nil]
    rw [key _ (by omega) (by omega), key _ (by omega) (by omega), key _ (by omega) (by omega), key _ (by omega) (by omega)]
    simp only [List.cons.injEq, and_true]
    omega

theorem take_get (s : ByteArray) (i m : Nat) (h : i + m ≤ s.size) : (s.extract i (i + m)).data.toList = (List.range m).map fun k => s.get! (i + k) := by
  rw [Lib.extract_data, show i + m - i = m by omega]
  apply List.ext_getElem?
  intro k
  rw [List.getElem?_map]
  by_cases hk : k < m
  · rw [List.getElem?_take_of_lt hk, List.getElem?_drop, List.getElem?_range hk, Option.map_some, get_list]
    have : i + k < s.data.toList.length := by rw [← Lib.size_eq]; omega
    rw [List.getElem?_eq_getElem this]; rfl
  · rw [List.getElem?_eq_none (by rw [List.length_take]; omega), List.getElem?_eq_none (by simp; omega)]; rfl

theorem beq_nat (x y : ByteArray) : (x.toList == y.toList) = decide (x.data.toList.map UInt8.toNat = y.data.toList.map UInt8.toNat) := by
  rw [Lib.toList_data, Lib.toList_data]
  by_cases h : x.data.toList = y.data.toList
  · rw [h]; simp
  · rw [beq_eq_false_iff_ne.2 h]
    symm
    apply decide_eq_false
    intro e
    apply h
    exact List.map_inj_right (f := UInt8.toNat) (fun a b h => UInt8.toNat_inj.1 h) |>.1 e

theorem good_nat (s : ByteArray) (i m : Nat) (hi : i < s.size) : goodB s i m = true ↔ m ≤ s.size - i ∧ isSign (cand s i m) = true ∧ encN (cand s i m) = (List.range m).map fun k => (s.get! (i + k)).toNat := by
  unfold goodB
  rw [Bool.and_eq_true, Bool.and_eq_true, decide_eq_true_eq]
  constructor
  · rintro ⟨h1, h2, h3⟩
    refine ⟨h1, h2, ?_⟩
    rw [beq_nat, decide_eq_true_eq, enc_nat _ (sign_le h2), take_get s i m (by omega), List.map_map] at h3
    exact h3
  · rintro ⟨h1, h2, h3⟩
    refine ⟨h1, h2, ?_⟩
    rw [beq_nat, decide_eq_true_eq, enc_nat _ (sign_le h2), take_get s i m (by omega), List.map_map]
    exact h3

theorem sign_iff (c : Nat) : isSign c = true ↔ 0 < c ∧ c ≤ 1114111 ∧ (c < 55296 ∨ 57343 < c) := by
  unfold isSign
  rw [decide_eq_true_eq]
  omega

theorem good1 (s : ByteArray) (i : Nat) (hi : i < s.size) : goodB s i 1 = true ↔ 0 < (s.get! i).toNat ∧ (s.get! i).toNat < 128 := by
  rw [good_nat s i 1 hi, sign_iff]
  have hb := (s.get! i).toNat_lt
  simp only [cand, List.range_succ, List.range_zero, List.nil_append, List.map_cons, List.map_nil, Nat.add_zero]
  generalize (s.get! i).toNat = b0 at *
  unfold encN
  constructor
  · rintro ⟨_, h1, h2⟩
    refine ⟨h1.1, ?_⟩
    rcases Nat.lt_or_ge b0 128 with h | h
    · exact h
    · rw [if_neg (by omega), if_pos (by omega)] at h2
      simp at h2
  · rintro ⟨h1, h2⟩
    exact ⟨by omega, ⟨h1, by omega, by omega⟩, by rw [if_pos h2]⟩

theorem good2 (s : ByteArray) (i : Nat) (hi : i < s.size) : goodB s i 2 = true ↔ 2 ≤ s.size - i ∧ (s.get! i).toNat / 32 = 6 ∧ (s.get! (i + 1)).toNat / 64 = 2 ∧ 128 ≤ cand s i 2 := by
  rw [good_nat s i 2 hi, sign_iff]
  have hb := (s.get! i).toNat_lt
  have hb1 := (s.get! (i + 1)).toNat_lt
  simp only [cand, List.range_succ, List.range_zero, List.nil_append, List.map_cons, List.map_nil, Nat.add_zero, List.cons_append]
  generalize (s.get! i).toNat = b0 at *
  generalize (s.get! (i + 1)).toNat = b1 at *
  generalize hc : 64 * (b0 % 32) + b1 % 64 = c at *
  unfold encN
  constructor
  · rintro ⟨h0, h1, h2⟩
    refine ⟨h0, ?_⟩
    rcases Nat.lt_or_ge c 128 with h | h
    · rw [if_pos h] at h2; simp at h2
    · rw [if_neg (by omega), if_pos (by omega)] at h2
      simp only [List.cons.injEq, and_true] at h2
      omega
  · rintro ⟨h0, h1, h2, h3⟩
    refine ⟨h0, by omega, ?_⟩
    rw [if_neg (by omega), if_pos (by omega)]
    simp only [List.cons.injEq, and_true]
    omega

theorem good3 (s : ByteArray) (i : Nat) (hi : i < s.size) : goodB s i 3 = true ↔ 3 ≤ s.size - i ∧ (s.get! i).toNat / 16 = 14 ∧ (s.get! (i + 1)).toNat / 64 = 2 ∧ (s.get! (i + 2)).toNat / 64 = 2 ∧ 2048 ≤ cand s i 3 ∧ (cand s i 3 < 55296 ∨ 57343 < cand s i 3) := by
  rw [good_nat s i 3 hi, sign_iff]
  have hb := (s.get! i).toNat_lt
  have hb1 := (s.get! (i + 1)).toNat_lt
  have hb2 := (s.get! (i + 2)).toNat_lt
  simp only [cand, List.range_succ, List.range_zero, List.nil_append, List.map_cons, List.map_nil, Nat.add_zero, List.cons_append]
  generalize (s.get! i).toNat = b0 at *
  generalize (s.get! (i + 1)).toNat = b1 at *
  generalize (s.get! (i + 2)).toNat = b2 at *
  generalize hc : 64 * (64 * (b0 % 16) + b1 % 64) + b2 % 64 = c at *
  unfold encN
  constructor
  · rintro ⟨h0, h1, h2⟩
    refine ⟨h0, ?_⟩
    rcases (by omega : c < 128 ∨ (128 ≤ c ∧ c < 2048) ∨ 2048 ≤ c) with h | h | h
    · rw [if_pos h] at h2; simp at h2
    · rw [if_neg (by omega), if_pos (by omega)] at h2; simp at h2
    · rw [if_neg (by omega), if_neg (by omega), if_pos (by omega)] at h2
      simp only [List.cons.injEq, and_true] at h2
      omega
  · rintro ⟨h0, h1, h2, h3, h4, h5⟩
    refine ⟨h0, by omega, ?_⟩
    rw [if_neg (by omega), if_neg (by omega), if_pos (by omega)]
    simp only [List.cons.injEq, and_true]
    omega

theorem good4 (s : ByteArray) (i : Nat) (hi : i < s.size) : goodB s i 4 = true ↔ 4 ≤ s.size - i ∧ (s.get! i).toNat / 8 = 30 ∧ (s.get! (i + 1)).toNat / 64 = 2 ∧ (s.get! (i + 2)).toNat / 64 = 2 ∧ (s.get! (i + 3)).toNat / 64 = 2 ∧ 65536 ≤ cand s i 4 ∧ cand s i 4 ≤ 1114111 := by
  rw [good_nat s i 4 hi, sign_iff]
  have hb := (s.get! i).toNat_lt
  have hb1 := (s.get! (i + 1)).toNat_lt
  have hb2 := (s.get! (i + 2)).toNat_lt
  have hb3 := (s.get! (i + 3)).toNat_lt
  simp only [cand, List.range_succ, List.range_zero, List.nil_append, List.map_cons, List.map_nil, Nat.add_zero, List.cons_append]
  generalize (s.get! i).toNat = b0 at *
  generalize (s.get! (i + 1)).toNat = b1 at *
  generalize (s.get! (i + 2)).toNat = b2 at *
  generalize (s.get! (i + 3)).toNat = b3 at *
  generalize hc : 64 * (64 * (64 * (b0 % 8) + b1 % 64) + b2 % 64) + b3 % 64 = c at *
  unfold encN
  constructor
  · rintro ⟨h0, h1, h2⟩
    refine ⟨h0, ?_⟩
    rcases (by omega : c < 128 ∨ (128 ≤ c ∧ c < 2048) ∨ (2048 ≤ c ∧ c < 65536) ∨ 65536 ≤ c) with h | h | h | h
    · rw [if_pos h] at h2; simp at h2
    · rw [if_neg (by omega), if_pos (by omega)] at h2; simp at h2
    · rw [if_neg (by omega), if_neg (by omega), if_pos (by omega)] at h2; simp at h2
    · rw [if_neg (by omega), if_neg (by omega), if_neg (by omega)] at h2
      simp only [List.cons.injEq, and_true] at h2
      omega
  · rintro ⟨h0, h1, h2, h3, h4, h5, h6⟩
    refine ⟨h0, by omega, ?_⟩
    rw [if_neg (by omega), if_neg (by omega), if_neg (by omega)]
    simp only [List.cons.injEq, and_true]
    omega

theorem runeV_one (r i : Nat) (h : r = 0 ∨ r = 65533) : runeV r 1 i = (-1, 1) := by
  unfold runeV
  rw [if_pos (by omega)]
theorem runeV_fin (r n i : Nat) (h0 : r ≠ 0) (h1 : n ≠ 1 ∨ r < 128) (h3 : r = 65279 → n = 3) : runeV r n i = finV r n i := by
  unfold runeV finV
  rw [if_neg (by omega)]
  by_cases h : r = 65279 ∧ 0 < i
  · rw [if_pos h, if_pos h, h3 h.1]
  · rw [if_neg h, if_neg h]

theorem ref_is (s : ByteArray) (i : Nat) (hi : i < s.size) : refAt s i = runeAt s i := by
  have g1 := good1 s i hi
  have g2 := good2 s i hi
  have g3 := good3 s i hi
  have g4 := good4 s i hi
  have hb := (s.get! i).toNat_lt
  have hb1 := (s.get! (i + 1)).toNat_lt
  have hb2 := (s.get! (i + 2)).toNat_lt
  have hb3 := (s.get! (i + 3)).toNat_lt
  unfold refAt runeAt dec
  have c1 : cand s i 1 = (s.get! i).toNat := rfl
  have c2 : cand s i 2 = 64 * ((s.get! i).toNat % 32) + (s.get! (i + 1)).toNat % 64 := rfl
  have c3 : cand s i 3 = 64 * (64 * ((s.get! i).toNat % 16) + (s.get! (i + 1)).toNat % 64) + (s.get! (i + 2)).toNat % 64 := rfl
  have c4 : cand s i 4 = 64 * (64 * (64 * ((s.get! i).toNat % 8) + (s.get! (i + 1)).toNat % 64) + (s.get! (i + 2)).toNat % 64) + (s.get! (i + 3)).toNat % 64 := rfl
  generalize goodB s i 1 = G1 at *
  generalize goodB s i 2 = G2 at *
  generalize goodB s i 3 = G3 at *
  generalize goodB s i 4 = G4 at *
  generalize cand s i 1 = C1 at *
  generalize cand s i 2 = C2 at *
  generalize cand s i 3 = C3 at *
  generalize cand s i 4 = C4 at *
  generalize (s.get! i).toNat = b0 at *
  generalize (s.get! (i + 1)).toNat = b1 at *
  generalize (s.get! (i + 2)).toNat = b2 at *
  generalize (s.get! (i + 3)).toNat = b3 at *
  have hn : 1 ≤ s.size - i := by omega
  generalize s.size - i = n at *
  have key : ∀ r k : Nat, Lib.decodeN n b0 b1 b2 b3 = (r, k) → runeV (Lib.decodeN n b0 b1 b2 b3).1 (Lib.decodeN n b0 b1 b2 b3).2 i = runeV r k i := fun r k e => by rw [e]
  by_cases h1 : G1 = true
  · rw [if_pos h1]
    have := g1.1 h1
    rw [key C1 1 (by unfold Lib.decodeN; rw [if_pos (by omega), c1]), runeV_fin _ _ _ (by omega) (by omega) (by omega)]
  · rw [if_neg h1]
    have n1 : ¬ (0 < b0 ∧ b0 < 128) := fun h => h1 (g1.2 h)
    by_cases h2 : G2 = true
    · rw [if_pos h2]
      have := g2.1 h2
      rw [key C2 2 (by unfold Lib.decodeN; rw [if_neg (by omega), if_pos (by omega), if_pos (by omega)]; exact Prod.ext (by simp only; omega) rfl), runeV_fin _ _ _ (by omega) (by omega) (by omega)]
    · rw [if_neg h2]
      have n2 : ¬ (2 ≤ n ∧ b0 / 32 = 6 ∧ b1 / 64 = 2 ∧ 128 ≤ C2) := fun h => h2 (g2.2 h)
      by_cases h3 : G3 = true
      · rw [if_pos h3]
        have := g3.1 h3
        rw [key C3 3 (by unfold Lib.decodeN; rw [if_neg (by omega), if_neg (by omega), if_pos (by omega), if_pos (by omega)]; exact Prod.ext (by simp only; omega) rfl), runeV_fin _ _ _ (by omega) (by omega) (by omega)]
      · rw [if_neg h3]
        have n3 : ¬ (3 ≤ n ∧ b0 / 16 = 14 ∧ b1 / 64 = 2 ∧ b2 / 64 = 2 ∧ 2048 ≤ C3 ∧ (C3 < 55296 ∨ 57343 < C3)) := fun h => h3 (g3.2 h)
        by_cases h4 : G4 = true
        · rw [if_pos h4]
          have := g4.1 h4
          rw [key C4 4 (by unfold Lib.decodeN; rw [if_neg (by omega), if_neg (by omega), if_neg (by omega), if_pos (by omega), if_pos (by omega)]; exact Prod.ext (by simp only; omega) rfl), runeV_fin _ _ _ (by omega) (by omega) (by omega)]
        · rw [if_neg h4]
          have n4 : ¬ (4 ≤ n ∧ b0 / 8 = 30 ∧ b1 / 64 = 2 ∧ b2 / 64 = 2 ∧ b3 / 64 = 2 ∧ 65536 ≤ C4 ∧ C4 ≤ 1114111) := fun h => h4 (g4.2 h)
          have hd : (Lib.decodeN n b0 b1 b2 b3) = (65533, 1) ∨ (Lib.decodeN n b0 b1 b2 b3) = (0, 1) := by
            unfold Lib.decodeN
            by_cases a0 : b0 < 128
            · right; rw [if_pos a0]; have : b0 = 0 := by omega
              rw [this]
            · left
              rw [if_neg a0]
              by_cases a1 : b0 / 32 = 6 ∧ (1 < n ∧ b1 / 64 = 2)
              · rw [if_pos a1, if_neg (by omega)]
              · rw [if_neg a1]
                by_cases a2 : b0 / 16 = 14 ∧ (1 < n ∧ b1 / 64 = 2) ∧ (2 < n ∧ b2 / 64 = 2)
                · rw [if_pos a2, if_neg (by omega)]
                · rw [if_neg a2]
                  by_cases a3 : b0 / 8 = 30 ∧ (1 < n ∧ b1 / 64 = 2) ∧ (2 < n ∧ b2 / 64 = 2) ∧ (3 < n ∧ b3 / 64 = 2)
                  · rw [if_pos a3, if_neg (by omega)]
                  · rw [if_neg a3]
          rcases hd with e | e
          · rw [key _ _ e, runeV_one _ _ (.inr rfl)]
          · rw [key _ _ e, runeV_one _ _ (.inl rfl)]
end Go.Proofs.YtejogobhnbjpdaaDoor
