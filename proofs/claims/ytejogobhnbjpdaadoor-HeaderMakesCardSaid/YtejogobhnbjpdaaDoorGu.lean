/- The theory of tokens: what stands at a place hangs on its own bytes, and on what stands right behind. -/
import Derived.Test.YtejogobhnbjpdaaDoorGt
namespace Go.Proofs.YtejogobhnbjpdaaDoor
set_option linter.unusedVariables false
set_option linter.unusedSimpArgs false

/-- Two texts have the same n bytes, from a place on each. -/
def Ag (s s' : ByteArray) (q q' n : Nat) : Prop := q + n ≤ s.size ∧ q' + n ≤ s'.size ∧ ∀ j, j < n → byt s (q + j) = byt s' (q' + j)
theorem Ag.sub {s s' : ByteArray} {q q' n : Nat} (h : Ag s s' q q' n) (i m : Nat) (him : i + m ≤ n) : Ag s s' (q + i) (q' + i) m :=
  ⟨by have := h.1; omega, by have := h.2.1; omega, fun j hj => by rw [Nat.add_assoc, Nat.add_assoc]; exact h.2.2 (i + j) (by omega)⟩
theorem Ag.le {s s' : ByteArray} {q q' n : Nat} (h : Ag s s' q q' n) {m : Nat} (hm : m ≤ n) : Ag s s' q q' m := h.sub 0 m (by omega)
theorem Ag.at {s s' : ByteArray} {q q' n : Nat} (h : Ag s s' q q' n) {i : Nat} (hi : i < n) : byt s' (q' + i) = byt s (q + i) := (h.2.2 i hi).symm
theorem Ag.at0 {s s' : ByteArray} {q q' n : Nat} (h : Ag s s' q q' n) (hn : 0 < n) : byt s' q' = byt s q := h.at (i := 0) hn

theorem cand_ag {s s' : ByteArray} {q q' k : Nat} (h1 : 1 ≤ k) (h4 : k ≤ 4) (h : Ag s s' q q' k) : cand s' q' k = cand s q k := by
  obtain ⟨ha, hb, hc⟩ := h
  have e0 := hc 0 (by omega)
  unfold byt at hc e0
  rw [Nat.add_zero, Nat.add_zero] at e0
  rcases (by omega : k = 1 ∨ k = 2 ∨ k = 3 ∨ k = 4) with rfl | rfl | rfl | rfl
  · show (s'.get! q').toNat = (s.get! q).toNat; exact e0.symm
  · have e1 := hc 1 (by omega)
    simp only [cand]; rw [e0, e1]
  · have e1 := hc 1 (by omega)
    have e2 := hc 2 (by omega)
    simp only [cand]; rw [e0, e1, e2]
  · have e1 := hc 1 (by omega)
    have e2 := hc 2 (by omega)
    have e3 := hc 3 (by omega)
    simp only [cand]; rw [e0, e1, e2, e3]
theorem good_ag {s s' : ByteArray} {q q' k : Nat} (h1 : 1 ≤ k) (h4 : k ≤ 4) (h : Ag s s' q q' k) : goodB s' q' k = goodB s q k := by
  have hcd := cand_ag h1 h4 h
  obtain ⟨ha, hb, hc⟩ := h
  have e0 := hc 0 (by omega)
  unfold byt at hc e0
  rw [Nat.add_zero, Nat.add_zero] at e0
  rw [Bool.eq_iff_iff]
  rcases (by omega : k = 1 ∨ k = 2 ∨ k = 3 ∨ k = 4) with rfl | rfl | rfl | rfl
  · rw [good1 s q (by omega), good1 s' q' (by omega), e0]
  · have e1 := hc 1 (by omega)
    rw [good2 s q (by omega), good2 s' q' (by omega), e0, e1, hcd]
    omega
  · have e1 := hc 1 (by omega)
    have e2 := hc 2 (by omega)
    rw [good3 s q (by omega), good3 s' q' (by omega), e0, e1, e2, hcd]
    omega
  · have e1 := hc 1 (by omega)
    have e2 := hc 2 (by omega)
    have e3 := hc 3 (by omega)
    rw [good4 s q (by omega), good4 s' q' (by omega), e0, e1, e2, e3, hcd]
    omega
theorem finV_pos {c m q : Nat} (h : 0 ≤ (finV c m q).1) : finV c m q = ((c : Int), m) ∧ ¬ (c = 65279 ∧ 0 < q) := by
  unfold finV at h ⊢
  split <;> rename_i hx
  · rw [if_pos hx] at h; exact absurd h (by decide)
  · exact ⟨rfl, hx⟩
theorem rune_good {s : ByteArray} {q : Nat} (h : q < s.size) (h0 : 0 ≤ (runeAt s q).1) : ∃ m, 1 ≤ m ∧ m ≤ 4 ∧ (∀ k, 1 ≤ k → k < m → goodB s q k = false) ∧ goodB s q m = true ∧ runeAt s q = ((cand s q m : Int), m) ∧ ¬ (cand s q m = 65279 ∧ 0 < q) := by
  rw [← ref_is s q h] at h0 ⊢
  have fin : ∀ m, 1 ≤ m → m ≤ 4 → (∀ k, 1 ≤ k → k < m → goodB s q k = false) → goodB s q m = true → ∃ m, 1 ≤ m ∧ m ≤ 4 ∧ (∀ k, 1 ≤ k → k < m → goodB s q k = false) ∧ goodB s q m = true ∧ refAt s q = ((cand s q m : Int), m) ∧ ¬ (cand s q m = 65279 ∧ 0 < q) := by
    intro m h1 h4 hno hg
    have e := refAt_good s q m h1 h4 hno hg
    rw [e] at h0
    have := finV_pos h0
    exact ⟨m, h1, h4, hno, hg, by rw [e]; exact this.1, this.2⟩
  by_cases g1 : goodB s q 1 = true
  · exact fin 1 (by omega) (by omega) (fun k _ _ => by omega) g1
  have n1 := Bool.eq_false_iff.2 g1
  by_cases g2 : goodB s q 2 = true
  · exact fin 2 (by omega) (by omega) (fun k _ _ => by obtain rfl : k = 1 := by omega
                                                       exact n1) g2
  have n2 := Bool.eq_false_iff.2 g2
  by_cases g3 : goodB s q 3 = true
  · exact fin 3 (by omega) (by omega) (fun k _ _ => by rcases (by omega : k = 1 ∨ k = 2) with rfl | rfl
                                                       · exact n1
                                                       · exact n2) g3
  have n3 := Bool.eq_false_iff.2 g3
  by_cases g4 : goodB s q 4 = true
  · exact fin 4 (by omega) (by omega) (fun k _ _ => by rcases (by omega : k = 1 ∨ k = 2 ∨ k = 3) with rfl | rfl | rfl
                                                       · exact n1
                                                       · exact n2
                                                       · exact n3) g4
  have n4 := Bool.eq_false_iff.2 g4
  rw [refAt_none s q (fun k _ _ => by
    rcases (by omega : k = 1 ∨ k = 2 ∨ k = 3 ∨ k = 4) with rfl | rfl | rfl | rfl
    · exact n1
    · exact n2
    · exact n3
    · exact n4)] at h0
  exact absurd h0 (by decide)
theorem rune_mark {s : ByteArray} {q : Nat} (h : q < s.size) (h0 : (runeAt s q).1 = 65279) : q = 0 := by
  obtain ⟨m, _, _, _, _, e, hn⟩ := rune_good h (by omega)
  rw [e] at h0
  have : (cand s q m : Int) = 65279 := h0
  rcases Nat.eq_zero_or_pos q with h | h
  · exact h
  · exact absurd ⟨by omega, h⟩ hn
/-- No mark is read otherwise by being at another place. -/
def Okm (s : ByteArray) (q q' : Nat) : Prop := q' = q ∨ 0 < q ∨ (runeAt s 0).1 ≠ 65279
theorem Okm.add {s : ByteArray} {q q' : Nat} (h : Okm s q q') (n : Nat) : Okm s (q + n) (q' + n) := by
  rcases h with h | h | h
  · exact .inl (by omega)
  · exact .inr (.inl (by omega))
  · exact .inr (.inr h)
theorem rune_loc {s s' : ByteArray} {q q' : Nat} (h : q < s.size) (h0 : 0 ≤ (runeAt s q).1) (ha : Ag s s' q q' (runeAt s q).2) (hm : Okm s q q') : runeAt s' q' = runeAt s q := by
  obtain ⟨m, h1, h4, hno, hg, e, hn⟩ := rune_good h h0
  have hmk : (cand s q m = 65279 → q' = 0) := fun hc => by
    have h5 : (runeAt s q).1 = 65279 := by rw [e]; show (cand s q m : Int) = _; omega
    have h6 := rune_mark h h5
    rcases hm with h7 | h7 | h7
    · omega
    · omega
    · subst h6; exact absurd h5 h7
  rw [e] at ha ⊢
  have ha : Ag s s' q q' m := ha
  have hlt : q' < s'.size := by have := ha.2.1; omega
  rw [← ref_is s' q' hlt, refAt_good s' q' m h1 h4 (fun k hk hkm => by rw [good_ag hk (by omega) (ha.le (by omega))]; exact hno k hk hkm) (by rw [good_ag h1 h4 ha]; exact hg), cand_ag h1 h4 ha]
  unfold finV
  rw [if_neg (fun hx => by have := hmk hx.1; omega)]

theorem letR_pos {r : Int} (h : letR r = true) : 0 ≤ r := by have := of_decide_eq_true h; omega
theorem digR_pos {r : Int} (h : digR r = true) : 0 ≤ r := by have := of_decide_eq_true h; omega

theorem identE_ge (s : ByteArray) : ∀ (n q : Nat), s.size - q ≤ n → q ≤ identE s q ∧ (q ≤ s.size → identE s q ≤ s.size) := by
  intro n
  induction n with
  | zero => intro q hn; rw [identE, dif_neg (by omega)]; omega
  | succ n ih =>
    intro q hn
    rw [identE]
    split <;> rename_i h
    · have hr := runeAt_range s q h
      split
      · have := ih (q + (runeAt s q).2) (by omega); omega
      · omega
    · omega
theorem ident_loc {s s' : ByteArray} : ∀ (n q q' : Nat), s.size - q ≤ n → Okm s q q' → Ag s s' q q' (identE s q - q) → (letR (rn s' (q' + (identE s q - q))).1 || digR (rn s' (q' + (identE s q - q))).1) = false → identE s' q' = q' + (identE s q - q) := by
  intro n
  induction n with
  | zero =>
    intro q q' hn hm ha hst
    have e : identE s q = q := by rw [identE, dif_neg (by omega)]
    rw [e, Nat.sub_self, Nat.add_zero] at hst ⊢
    rw [identE]
    split <;> rename_i h
    · rw [rn_in h] at hst
      rw [if_neg (by rw [hst]; decide)]
    · rfl
  | succ n ih =>
    intro q q' hn hm ha hst
    have hge := identE_ge s (s.size - q) q (Nat.le_refl _)
    by_cases h : q < s.size
    · by_cases hl : (letR (runeAt s q).1 || digR (runeAt s q).1) = true
      · have hr := runeAt_range s q h
        have e : identE s q = identE s (q + (runeAt s q).2) := by rw [identE, dif_pos h, if_pos hl]
        have hge2 := identE_ge s (s.size - (q + (runeAt s q).2)) (q + (runeAt s q).2) (Nat.le_refl _)
        have h0 : 0 ≤ (runeAt s q).1 := by
          rcases Bool.or_eq_true_iff.1 hl with x | x
          · exact letR_pos x
          · exact digR_pos x
        have hle : (runeAt s q).2 ≤ identE s q - q := by omega
        have er := rune_loc h h0 (ha.le hle) hm
        have h' : q' < s'.size := by have := ha.2.1; omega
        rw [identE, dif_pos h', er, if_pos hl]
        have e3 : q' + (identE s q - q) = q' + (runeAt s q).2 + (identE s (q + (runeAt s q).2) - (q + (runeAt s q).2)) := by omega
        rw [e3] at hst ⊢
        exact ih (q + (runeAt s q).2) (q' + (runeAt s q).2) (by omega) (hm.add _) (ha.sub _ _ (by omega)) hst
      · have e : identE s q = q := by rw [identE, dif_pos h, if_neg hl]
        rw [e, Nat.sub_self, Nat.add_zero] at hst ⊢
        rw [identE]
        split <;> rename_i h
        · rw [rn_in h] at hst
          rw [if_neg (by rw [hst]; decide)]
        · rfl
    · have e : identE s q = q := by rw [identE, dif_neg h]
      rw [e, Nat.sub_self, Nat.add_zero] at hst ⊢
      rw [identE]
      split <;> rename_i h
      · rw [rn_in h] at hst
        rw [if_neg (by rw [hst]; decide)]
      · rfl

theorem numE_ge (s : ByteArray) (hex : Bool) : ∀ (n q : Nat), s.size - q ≤ n → q ≤ numE s hex q ∧ (q ≤ s.size → numE s hex q ≤ s.size) := by
  intro n
  induction n with
  | zero => intro q hn; rw [numE, if_neg (by omega)]; omega
  | succ n ih =>
    intro q hn
    rw [numE]
    split
    · split
      · have := ih (q + 1) (by omega); omega
      · omega
    · omega
theorem num_loc {s s' : ByteArray} {hex : Bool} : ∀ (n q q' : Nat), s.size - q ≤ n → Ag s s' q q' (numE s hex (q + 1) - q) → (q' + (numE s hex (q + 1) - q) < s'.size → inNum (byt s' (q' + (numE s hex (q + 1) - q) - 1)) (byt s' (q' + (numE s hex (q + 1) - q))) hex = false) → numE s' hex (q' + 1) = q' + (numE s hex (q + 1) - q) := by
  intro n
  induction n with
  | zero =>
    intro q q' hn ha hst
    have e : numE s hex (q + 1) = q + 1 := by rw [numE, if_neg (by omega)]
    rw [e, show q + 1 - q = 1 by omega] at hst ⊢
    rw [numE]
    split <;> rename_i h
    · rw [if_neg (by rw [hst h]; decide)]
    · rfl
  | succ n ih =>
    intro q q' hn ha hst
    have hge := numE_ge s hex (s.size - (q + 1)) (q + 1) (Nat.le_refl _)
    by_cases h : q + 1 < s.size ∧ inNum (byt s q) (byt s (q + 1)) hex = true
    · have e : numE s hex (q + 1) = numE s hex (q + 1 + 1) := by rw [numE, if_pos h.1, Nat.add_sub_cancel, if_pos h.2]
      have hge2 := numE_ge s hex (s.size - (q + 1 + 1)) (q + 1 + 1) (Nat.le_refl _)
      have h' : q' + 1 < s'.size := by have := ha.2.1; omega
      have b0 := ha.at (i := 0) (by omega)
      have b1 := ha.at (i := 1) (by omega)
      rw [Nat.add_zero, Nat.add_zero] at b0
      rw [numE, if_pos h', Nat.add_sub_cancel, b0, b1, if_pos h.2]
      have e3 : q' + (numE s hex (q + 1) - q) = q' + 1 + (numE s hex (q + 1 + 1) - (q + 1)) := by omega
      rw [e3] at hst ⊢
      exact ih (q + 1) (q' + 1) (by omega) (ha.sub _ _ (by omega)) hst
    · have e : numE s hex (q + 1) = q + 1 := by
        rw [numE]
        split <;> rename_i h1
        · rw [Nat.add_sub_cancel, if_neg (fun h2 => h ⟨h1, h2⟩)]
        · rfl
      rw [e, show q + 1 - q = 1 by omega] at hst ⊢
      rw [numE]
      split <;> rename_i h
      · rw [if_neg (by rw [hst h]; decide)]
      · rfl

theorem list_drop_pre : ∀ (x l : List UInt8) (q : Nat), (∀ y ∈ x, True) → (x.isPrefixOf (l.drop q) = true ↔ (x.length ≤ l.length - q ∧ ∀ j, j < x.length → l[q + j]? = x[j]?))
  | [], l, q, _ => by simp
  | y :: x, l, q, _ => by
    cases hd : l.drop q with
    | nil =>
      have : l.length ≤ q := by simpa using hd
      simp; intro h; omega
    | cons z t =>
      have hq : q < l.length := by
        rcases Nat.lt_or_ge q l.length with h | h
        · exact h
        · rw [List.drop_eq_nil_of_le h] at hd; cases hd
      rw [List.drop_eq_getElem_cons hq] at hd
      injection hd with h1 h2
      rw [← h2]
      have ih := list_drop_pre x l (q + 1) (fun _ _ => trivial)
      show (y == z && x.isPrefixOf (l.drop (q + 1))) = true ↔ _
      rw [Bool.and_eq_true, ih, beq_iff_eq]
      constructor
      · rintro ⟨h3, h4, h5⟩
        refine ⟨by simp only [List.length_cons]; omega, fun j hj => ?_⟩
        cases j with
        | zero => rw [Nat.add_zero, List.getElem?_eq_getElem hq, h1, h3]; rfl
        | succ j => rw [show q + (j + 1) = q + 1 + j by omega, h5 j (by simpa using hj)]; rfl
      · rintro ⟨h3, h4⟩
        simp only [List.length_cons] at h3
        refine ⟨?_, by omega, fun j hj => ?_⟩
        · have := h4 0 (by simp)
          rw [Nat.add_zero, List.getElem?_eq_getElem hq, h1] at this
          simpa using this.symm
        · have := h4 (j + 1) (by simpa using hj)
          rw [show q + 1 + j = q + (j + 1) by omega, this]; rfl
theorem byt_list {s : ByteArray} {i : Nat} (h : i < s.size) : s.data.toList[i]? = some (s.get! i) := by
  rw [get_is s i h]
  have : i < s.data.toList.length := by rw [← Lib.size_eq]; exact h
  rw [List.getElem?_eq_getElem this]
  simp [ByteArray.getElem_eq_getElem_data]
theorem pre_iff (s : ByteArray) (q : Nat) (x : List UInt8) (hq : q ≤ s.size) : pre s q x = true ↔ q + x.length ≤ s.size ∧ ∀ j, j < x.length → (x[j]?).map UInt8.toNat = some (byt s (q + j)) := by
  unfold pre Lib.hasPrefix
  rw [list_drop_pre x _ q (fun _ _ => trivial), ← Lib.size_eq]
  constructor
  · rintro ⟨h1, h2⟩
    refine ⟨by omega, fun j hj => ?_⟩
    rw [← h2 j hj, byt_list (by omega)]; rfl
  · rintro ⟨h1, h2⟩
    refine ⟨by omega, fun j hj => ?_⟩
    have h3 := h2 j hj
    rw [byt_list (by omega)]
    cases hx : x[j]? with
    | none => rw [hx] at h3; cases h3
    | some y =>
      rw [hx] at h3
      simp only [Option.map_some, Option.some.injEq, byt] at h3
      rw [UInt8.toNat_inj.1 h3]
theorem pre2 (s : ByteArray) (q : Nat) (a b : UInt8) (hq : q ≤ s.size) : pre s q [a, b] = true ↔ q + 2 ≤ s.size ∧ byt s q = a.toNat ∧ byt s (q + 1) = b.toNat := by
  rw [pre_iff s q _ hq]
  constructor
  · rintro ⟨h1, h2⟩
    have e0 := h2 0 (by simp)
    have e1 := h2 1 (by simp)
    simp at e0 e1
    exact ⟨h1, e0.symm, e1.symm⟩
  · rintro ⟨h1, h2, h3⟩
    refine ⟨h1, fun j hj => ?_⟩
    have hj : j < 2 := hj
    rcases (by omega : j = 0 ∨ j = 1) with rfl | rfl
    · rw [Nat.add_zero, h2]; rfl
    · rw [h3]; rfl
theorem pre1 (s : ByteArray) (q : Nat) (a : UInt8) (hq : q ≤ s.size) : pre s q [a] = true ↔ q < s.size ∧ byt s q = a.toNat := by
  rw [pre_iff s q _ hq]
  constructor
  · rintro ⟨h1, h2⟩
    have e0 := h2 0 (by simp)
    simp at e0
    exact ⟨h1, e0.symm⟩
  · rintro ⟨h1, h2⟩
    refine ⟨h1, fun j hj => ?_⟩
    have hj : j < 1 := hj
    obtain rfl : j = 0 := by omega
    rw [Nat.add_zero, h2]; rfl
theorem pre_ag {s s' : ByteArray} {q q' : Nat} {x : List UInt8} (ha : Ag s s' q q' x.length) : pre s' q' x = pre s q x := by
  rw [Bool.eq_iff_iff, pre_iff s' q' x (by have := ha.2.1; omega), pre_iff s q x (by have := ha.1; omega)]
  constructor
  · rintro ⟨h1, h2⟩
    exact ⟨ha.1, fun j hj => by rw [← ha.at hj]; exact h2 j hj⟩
  · rintro ⟨h1, h2⟩
    exact ⟨ha.2.1, fun j hj => by rw [ha.at hj]; exact h2 j hj⟩
end Go.Proofs.YtejogobhnbjpdaaDoor
