/- Plain: the order of paths is one; changes that a call made, as a list in memory. -/
import Derived.Test.YtdhaanaenklleaaDoorEf
import Derived.Test.YtdhaanaenklleaaDoorEd
namespace Go.Proofs.YtdhaanaenklleaaDoor
set_option linter.unusedVariables false
set_option linter.unusedSimpArgs false
open Go.ChangeShapes Go.WideShapes Go.ChangeAt Go.RowKit

theorem cmpP_vals (a b : ByteArray) : cmpP a b = -1 ∨ cmpP a b = 0 ∨ cmpP a b = 1 := by
  unfold cmpP cmpL cmpO
  split
  · exact .inl rfl
  · split
    · exact .inr (.inl rfl)
    · exact .inr (.inr rfl)
theorem join_cut (p : ByteArray) : joinB (cutB 47 p) = p := by
  obtain ⟨n, hn⟩ : ∃ n, p.size ≤ n := ⟨_, Nat.le_refl _⟩
  induction n generalizing p with
  | zero =>
    rcases last_cases p with ⟨h1, h2⟩ | ⟨a, b, hp, hb, hl⟩
    · rw [cut_none p h2, joinB_one]
    · have : p.size = a.size + 1 + b.size := by rw [hp, app_size, app_size]; rfl
      omega
  | succ n ih =>
    rcases last_cases p with ⟨h1, h2⟩ | ⟨a, b, hp, hb, hl⟩
    · rw [cut_none p h2, joinB_one]
    · have : p.size = a.size + 1 + b.size := by rw [hp, app_size, app_size]; rfl
      have hne : cutB 47 a ≠ [] := by
        intro e; have := cutB_ne 47 a; rw [e] at this; simp at this
      rw [hp, cut_app a b hb, joinB_snoc _ _ hne, ih a (by omega)]
theorem split_inj {a b : ByteArray} (h : splitL a = splitL b) : a = b := by
  have hs : ∀ x : ByteArray, splitL x = [] → x = ⟨#[]⟩ := by
    intro x hx
    unfold splitL at hx
    split at hx
    · have := cutB_ne 47 x; rw [hx] at this; simp at this
    · rename_i h; exact empty_of x (by simpa using h)
  have hj : ∀ x : ByteArray, joinB (splitL x) = x := by
    intro x
    unfold splitL
    split
    · exact join_cut x
    · rename_i h; rw [empty_of x (by simpa using h)]; rfl
  rw [← hj a, ← hj b, h]

theorem cmpP_neg (a b : ByteArray) : cmpP b a = - cmpP a b := bl_so.lex.neg _ _
theorem cmpP_zero (a b : ByteArray) : cmpP a b = 0 ↔ a = b := by
  unfold cmpP cmpL
  rw [bl_so.lex.zero]
  exact ⟨split_inj, fun h => by rw [h]⟩
theorem cmpP_le (a b c : ByteArray) (h1 : cmpP a b ≤ 0) (h2 : cmpP b c ≤ 0) : cmpP a c ≤ 0 := bl_so.lex.le _ _ _ h1 h2
theorem cmpP_cm : D.Cm cmpP := ⟨cmpP_neg, cmpP_zero, fun a b c h1 h2 => by
  have h3 := cmpP_le a b c (by omega) (by omega)
  rcases Int.lt_or_eq_of_le h3 with h | h
  · exact h
  · have e := (cmpP_zero a c).1 h
    subst e
    have := cmpP_neg a b
    omega⟩
theorem ris_of : ∀ {a : List Inp}, risB a = true → D.Ris cmpP a
  | [], _ => List.Pairwise.nil
  | [f], _ => List.pairwise_singleton _ _
  | f :: g :: r, h => by
    unfold risB at h
    rw [Bool.and_eq_true, decide_eq_true_iff] at h
    have ih := ris_of h.2
    refine List.pairwise_cons.2 ⟨fun x hx => ?_, ih⟩
    rcases List.mem_cons.1 hx with rfl | hx
    · exact h.1
    · exact cmpP_cm.lt _ _ _ h.1 ((List.pairwise_cons.1 ih).1 x hx)
theorem odd_ris {a : List Inp} (h : oddB a = false) : D.Ris cmpP a ∧ (∀ x ∈ a, x.1.size ≤ 4096) ∧ a.length ≤ 60 := by
  unfold oddB at h
  rw [Bool.or_eq_false_iff, Bool.or_eq_false_iff] at h
  obtain ⟨⟨h1, h2⟩, h3⟩ := h
  have h1 := of_decide_eq_false h1
  have h2 := of_decide_eq_false h2
  refine ⟨ris_of (by simpa using h3), fun x hx => ?_, by omega⟩
  have := sumL_mem hx
  omega
theorem merge_kind {a b : List Inp} (ha : D.Ris cmpP a) (hb : D.Ris cmpP b) {x : D.Chg} (hx : x ∈ D.merge cmpP a b) : x.2 = 1 ∨ x.2 = 2 ∨ x.2 = 3 := by
  have := (D.merge_mem cmpP_cm _ a b (Nat.le_refl _) ha hb x.1 x.2).1 hx
  unfold D.kindOf at this
  split at this
  · cases this
  · exact .inr (.inl (Option.some.inj this).symm)
  · exact .inl (Option.some.inj this).symm
  · split at this
    · cases this
    · exact .inr (.inr (Option.some.inj this).symm)
theorem merge_size {a b : List Inp} {n : Nat} (ha : ∀ x ∈ a, x.1.size ≤ n) (hb : ∀ x ∈ b, x.1.size ≤ n) {x : D.Chg} (hx : x ∈ D.merge cmpP a b) : x.1.size ≤ n := by
  rcases D.merge_from cmpP _ a b (Nat.le_refl _) x hx with ⟨f, hf, e⟩ | ⟨f, hf, e⟩
  · rw [← e]; exact ha f hf
  · rw [← e]; exact hb f hf
theorem merge_len (n : Nat) : ∀ (a b : List Inp), a.length + b.length ≤ n → (D.merge cmpP a b).length ≤ a.length + b.length := by
  induction n with
  | zero =>
    intro a b hn
    obtain rfl := List.eq_nil_of_length_eq_zero (show a.length = 0 by omega)
    obtain rfl := List.eq_nil_of_length_eq_zero (show b.length = 0 by omega)
    rw [D.merge]; exact Nat.le_refl _
  | succ n ih =>
    intro a b hn
    match a, b with
    | [], [] => rw [D.merge]; exact Nat.le_refl _
    | [], g :: b => rw [D.merge]; have := ih [] b (by simp at hn ⊢; omega); simp at this ⊢; omega
    | f :: a, [] => rw [D.merge]; have := ih a [] (by simp at hn ⊢; omega); simp at this ⊢; omega
    | f :: a, g :: b =>
      simp only [List.length_cons] at hn
      have h1 := ih a (g :: b) (by simp only [List.length_cons]; omega)
      have h2 := ih (f :: a) b (by simp only [List.length_cons]; omega)
      have h3 := ih a b (by omega)
      simp only [List.length_cons] at h1 h2
      rw [D.merge]
      split
      · simp only [List.length_cons]; omega
      · split
        · simp only [List.length_cons]; omega
        · split
          · simp only [List.length_cons]; omega
          · simp only [List.length_cons]; omega
def toC (c : D.Chg) : Chg := (c.1, c.2, ())
theorem toC_inj {a b : D.Chg} (h : toC a = toC b) : a = b := by
  simp only [toC, Prod.mk.injEq, and_true] at h
  exact Prod.ext h.1 h.2
theorem flatD_at : ∀ (L : List D.Chg) (i : Nat) (c : D.Chg), L[i]? = some c → ∀ j, j < 2 → (flatD L)[i * 2 + j]? = [Value.string c.1, .int .i64 c.2][j]?
  | [], i, c, h, j, hj => by simp at h
  | d :: L, 0, c, h, j, hj => by
    obtain rfl : d = c := by simpa using h
    have : flatD (d :: L) = .string d.1 :: .int .i64 d.2 :: flatD L := rfl
    rw [this]
    match j, hj with
    | 0, _ => rfl
    | 1, _ => rfl
  | d :: L, i + 1, c, h, j, hj => by
    have : flatD (d :: L) = .string d.1 :: .int .i64 d.2 :: flatD L := rfl
    rw [this, show (i + 1) * 2 + j = (i * 2 + j) + 1 + 1 by omega, List.getElem?_cons_succ, List.getElem?_cons_succ]
    exact flatD_at L i c (by simpa using h) j hj
theorem flatD_len (L : List D.Chg) : (flatD L).length = L.length * 2 := by
  induction L with
  | nil => rfl
  | cons d L ih =>
    have : flatD (d :: L) = .string d.1 :: .int .i64 d.2 :: flatD L := rfl
    rw [this]; simp only [List.length_cons, ih]; omega
theorem rows_of_own {w : World} {base : Nat} {v : Value} {L : List D.Chg} (h : w.ownsRow base 77 2 v L.length (flatD L)) (hz : ∀ x ∈ L, x.1.size ≤ 140737488351232) (hk : ∀ x ∈ L, x.2 = 1 ∨ x.2 = 2 ∨ x.2 = 3) : Rows w 2 chgR v (L.map toC) := by
  rcases h.2 with ⟨hv, hn⟩ | ⟨g, cap, cur, hv, _, hg, hcap, hmax, hsz, htake⟩
  · exact .inl ⟨⟨_, _, hv⟩, by rw [List.eq_nil_of_length_eq_zero hn]; rfl⟩
  · by_cases h0 : L = []
    · subst h0; exact .inl ⟨⟨_, _, hv⟩, rfl⟩
    have hp := List.length_pos_iff.2 h0
    refine .inr ⟨g, 0, cap, by rw [List.length_map]; exact hv, by rw [List.length_map]; exact hp, by rw [List.length_map]; exact hcap, hmax, lt_of_block hg, fun i x hx => ?_⟩
    rw [List.getElem?_map] at hx
    cases hc : L[i]? with
    | none => rw [hc] at hx; cases hx
    | some c =>
      rw [hc] at hx
      obtain rfl := Option.some.inj hx
      have hil := (List.getElem?_eq_some_iff.1 hc).1
      have hcm : c ∈ L := List.mem_of_getElem? hc
      refine ⟨[.string c.1, .int .i64 c.2], ⟨[.string c.1], [.int .i64 c.2], rfl, ⟨rfl, hz c hcm⟩, [.int .i64 c.2], [], rfl, ⟨rfl, ?_⟩, rfl⟩, rfl, fun j hj => ?_⟩
      · show (Lit.int .i64 c.2).wf = true
        rcases hk c hcm with e | e | e <;> rw [e] <;> decide
      · rw [block_cell hg, ← flatD_at L i c hc j hj, ← htake, List.getElem?_take_of_lt (by omega), Array.getElem?_toList]
        congr 1
        omega
end Go.Proofs.YtdhaanaenklleaaDoor
