/- The theory of tokens: the statements GolexBegins, GolexParts, GolexAlone, of whole texts. -/
import Derived.Test.YtejogobhnbjpdaaDoorKl
namespace Go.Proofs.YtejogobhnbjpdaaDoor
set_option linter.unusedVariables false
set_option linter.unusedSimpArgs false

theorem sk_iff (s : ByteArray) : skN s = 3 ↔ pre s 0 [239, 187, 191] = true := by
  unfold skN pre
  rw [List.drop_zero]
  split <;> rename_i h
  · simp [h]
  · simp [h]
theorem sk_01 (s : ByteArray) : skN s = 0 ∨ skN s = 3 := by unfold skN; split <;> simp
theorem sk_eq {s s' : ByteArray} (h : pre s' 0 [239, 187, 191] = pre s 0 [239, 187, 191]) : skN s' = skN s := by
  rcases sk_01 s with h1 | h1 <;> rcases sk_01 s' with h2 | h2
  · omega
  · have := (sk_iff s').1 h2
    rw [h] at this
    have := (sk_iff s).2 this
    omega
  · have := (sk_iff s).1 h1
    rw [← h] at this
    have := (sk_iff s').2 this
    omega
  · omega
theorem pre3 (s : ByteArray) : pre s 0 [239, 187, 191] = true ↔ 3 ≤ s.size ∧ byt s 0 = 239 ∧ byt s 1 = 187 ∧ byt s 2 = 191 := by
  rw [pre_iff s 0 _ (Nat.zero_le _)]
  constructor
  · rintro ⟨h1, h2⟩
    have e0 := h2 0 (by simp)
    have e1 := h2 1 (by simp)
    have e2 := h2 2 (by simp)
    simp at e0 e1 e2 h1
    exact ⟨h1, e0.symm, e1.symm, e2.symm⟩
  · rintro ⟨h1, h2, h3, h4⟩
    refine ⟨by simpa using h1, fun j hj => ?_⟩
    have hj : j < 3 := hj
    rcases (by omega : j = 0 ∨ j = 1 ∨ j = 2) with rfl | rfl | rfl
    · rw [Nat.zero_add, h2]; rfl
    · rw [Nat.zero_add, h3]; rfl
    · rw [Nat.zero_add, h4]; rfl
/-- A written token of a text is what stands at its place. -/
theorem lexT_at (s : ByteArray) : ∀ q l m, ∀ (i k p : Nat) (x : ByteArray), l.length ≤ i → (lexT s q l m).1[i]? = some (k, x, p) → x.size ≠ 0 → q ≤ p ∧ p < s.size ∧ thing s p = .tok k (p + x.size) ∧ x = s.extract p (p + x.size) := by
  refine lex_ind s _ ?_ ?_ ?_
  · intro q l m h i k p x hi hl hx
    exact absurd (lexT_tok s q l m i k p x hi hl hx).1 h
  · intro q l m f h ht i k p x hi hl hx
    have := (lexT_tok s q l m i k p x hi hl hx).2.1
    rw [ht] at this; cases this
  · intro q l m h hok ih i k p x hi hl hx
    obtain ⟨_, _, h3⟩ := lexT_tok s q l m i k p x hi hl hx
    rcases h3 with ⟨_, h4, h5, h6⟩ | ⟨h4, h5⟩
    · subst h4
      exact ⟨Nat.le_refl _, h, h5, h6⟩
    · rw [lexT_step h hok] at hl
      obtain ⟨g1, g2, g3, g4⟩ := ih i k p x h5 hl hx
      have := ((thing_ends h).2 hok).1
      exact ⟨by omega, g2, g3, g4⟩
theorem byt_out {s : ByteArray} {i : Nat} (h : s.size ≤ i) : byt s i = 0 := by
  unfold byt
  rw [get_list, List.getElem?_eq_none (by rw [← Lib.size_eq]; exact h)]; rfl
theorem byt_app_l {a b : ByteArray} {i : Nat} (h : i < a.size) : byt (a ++ b) i = byt a i := by
  unfold byt
  rw [get_list, get_list]
  have : (a ++ b).data.toList = a.data.toList ++ b.data.toList := by simp
  rw [this, List.getElem?_append_left (by rw [← Lib.size_eq]; exact h)]
theorem get_app_r (a b : ByteArray) (i : Nat) : (a ++ b).get! (a.size + i) = b.get! i := by
  rw [get_list, get_list]
  have : (a ++ b).data.toList = a.data.toList ++ b.data.toList := by simp
  rw [this, Lib.size_eq, List.getElem?_append_right (by omega), Nat.add_sub_cancel_left]
theorem byt_ext {s : ByteArray} {n i : Nat} (hn : n ≤ s.size) (h : i < n) : byt (s.extract 0 n) i = byt s i := by
  unfold byt
  rw [get_list, get_list]
  have := ext_get s 0 n i (by omega)
  rw [Nat.zero_add, if_pos h] at this
  rw [this, byt_list (by omega), Nat.zero_add]
theorem begins_law {s s' : ByteArray} {j k p : Nat} {x : ByteArray} {t0 : Tk} (h0 : (lexL s)[j]? = some t0) (hd : t0.2.1 ≠ ⟨#[46]⟩) (h1 : (lexL s)[j + 1]? = some (k, x, p)) (hx : x.size ≠ 0)
    (hsz : p + x.size ≤ s'.size) (hag : ∀ i, i < p + x.size → byt s i = byt s' i) : (lexL s').take (j + 1) = (lexL s).take (j + 1) := by
  obtain ⟨g1, g2, g3, g4⟩ := lexT_at s (skN s) [] [] (j + 1) k p x (Nat.zero_le _) h1 hx
  have hp : p + x.size ≤ s.size := by
    have h := (thing_ends g2).2 (by rw [g3]; rfl)
    rw [g3] at h
    exact h.2.1
  have hsk : skN s' = skN s := by
    apply sk_eq
    rw [Bool.eq_iff_iff, pre3, pre3]
    constructor
    · rintro ⟨a1, a2, a3, a4⟩
      have b0 : byt s 0 = 239 := by rw [hag 0 (by omega)]; exact a2
      rcases sk_01 s with hs | hs
      · have h1 : (lexT s 0 [] []).1[j + 1]? = some (k, x, p) := by have h := h1; unfold lexL at h; rw [hs] at h; exact h
        obtain ⟨c1, c2, c3⟩ := lexT_tok s 0 [] [] (j + 1) k p x (Nat.zero_le _) h1 hx
        have c4 := (thing_ends c1).2 c2
        obtain ⟨m, m1, m4, _, hg, er, _⟩ := rune_good c1 (ok_pos c1 c2)
        have hm : m = 3 := by
          unfold byt at b0
          rcases (by omega : m = 1 ∨ m = 2 ∨ m = 3 ∨ m = 4) with rfl | rfl | rfl | rfl
          · have := (good1 s 0 c1).1 hg; omega
          · have := (good2 s 0 c1).1 hg; omega
          · rfl
          · have := (good4 s 0 c1).1 hg; omega
        subst hm
        have er2 : (runeAt s 0).2 = 3 := by rw [er]
        have hen : 3 ≤ p + x.size := by
          rcases c3 with ⟨_, d1, d2, _⟩ | ⟨d1, _⟩
          · subst d1
            rw [d2] at c4
            have c5 : 0 + (runeAt s 0).2 ≤ 0 + x.size := c4.2.2
            omega
          · omega
        exact ⟨by omega, b0, by rw [hag 1 (by omega)]; exact a3, by rw [hag 2 (by omega)]; exact a4⟩
      · exact (pre3 s).1 ((sk_iff s).1 hs)
    · rintro ⟨a1, a2, a3, a4⟩
      have hs := (sk_iff s).2 ((pre3 s).2 ⟨a1, a2, a3, a4⟩)
      rw [hs] at g1
      exact ⟨by omega, by rw [← hag 0 (by omega)]; exact a2, by rw [← hag 1 (by omega)]; exact a3, by rw [← hag 2 (by omega)]; exact a4⟩
  unfold lexL
  rw [hsk]
  exact begins_ok hx hp hsz hag (skN s) [] [] h1 (fun t ht => by
    have ht : (lexL s)[j]? = some t := ht
    rw [h0] at ht
    injection ht with ht
    subst ht; exact hd) (Nat.zero_le _)
theorem sk_of {b : ByteArray} (h : skN b = 0) : (runeAt b 0).1 ≠ 65279 := by
  apply no_mark
  apply Bool.eq_false_iff.2
  intro hp
  unfold skN at h
  rw [if_pos hp] at h
  omega
theorem parts_law {A b : ByteArray} (h0 : 0 < A.size) (hlf : byt A (A.size - 1) = 10) (hb : skN b = 0) (hk : ∀ t, (lexL A).getLast? = some t → t.1 = 0) :
    ∃ T, lexL A = T ++ [(0, ⟨#[]⟩, A.size)] ∧ lexL (A ++ b) = T ++ (lexL b).map (tkSh A.size) := by
  have hsz : (A ++ b).size = A.size + b.size := by simp
  have hag : ∀ j, j < A.size → byt A j = byt (A ++ b) j := fun j hj => (byt_app_l hj).symm
  have hsk : skN (A ++ b) = skN A := by
    apply sk_eq
    rw [Bool.eq_iff_iff, pre3, pre3]
    constructor
    · rintro ⟨a1, a2, a3, a4⟩
      have hn : ∀ i, i < A.size → byt (A ++ b) i ≠ 10 → i + 1 < A.size := fun i hi hne => by
        rcases Nat.lt_or_ge (i + 1) A.size with h | h
        · exact h
        · rw [byt_app_l hi, show i = A.size - 1 by omega, hlf] at hne
          exact absurd rfl hne
      have n1 := hn 0 h0 (by omega)
      have n2 := hn 1 n1 (by omega)
      have n3 := hn 2 n2 (by omega)
      exact ⟨by omega, by rw [hag 0 h0]; exact a2, by rw [hag 1 n1]; exact a3, by rw [hag 2 n2]; exact a4⟩
    · rintro ⟨a1, a2, a3, a4⟩
      exact ⟨by omega, by rw [← hag 0 (by omega)]; exact a2, by rw [← hag 1 (by omega)]; exact a3, by rw [← hag 2 (by omega)]; exact a4⟩
  obtain ⟨T, m2, e1, e2, e3⟩ := parts_first (s := A) (S := A ++ b) (by omega) hag h0 hlf (skN A) [] [] (skN_le A) (fun _ t ht => by cases ht) hk
  refine ⟨T, e1, ?_⟩
  have hT : Tl b (A ++ b) A.size := ⟨hsz, fun i => get_app_r A b i⟩
  have := parts_second hT e3 0 [] [] (.inr (.inr (sk_of hb))) m2
  unfold lexL
  rw [hsk, e2, hb]
  simpa using this
theorem alone_law {s s' : ByteArray} {i k p : Nat} {x : ByteArray} (h : (lexL s)[i]? = some (k, x, p)) (hx : x.size ≠ 0)
    (hs' : s' = (⟨#[32]⟩ ++ x) ++ ⟨#[32]⟩) : lexL s' = feedL [(k, x, 1)] s'.size ++ [(0, ⟨#[]⟩, s'.size)] := by
  obtain ⟨g1, g2, g3, g4⟩ := lexT_at s (skN s) [] [] i k p x (Nat.zero_le _) h hx
  have h1s : (⟨#[32]⟩ : ByteArray).size = 1 := rfl
  have hsz : s'.size = x.size + 2 := by rw [hs', ByteArray.size_append, ByteArray.size_append, h1s]; omega
  have b0 : byt s' 0 = 32 := by
    rw [hs', byt_app_l (by rw [ByteArray.size_append, h1s]; omega), byt_app_l (by decide)]; rfl
  have bl : byt s' (x.size + 1) = 32 := by
    rw [hs']
    have := get_app_r (⟨#[32]⟩ ++ x) ⟨#[32]⟩ 0
    have e : (⟨#[32]⟩ ++ x : ByteArray).size + 0 = x.size + 1 := by rw [ByteArray.size_append, h1s]; omega
    rw [e] at this
    unfold byt; rw [this]; rfl
  have bm : ∀ j, j < x.size → byt s' (1 + j) = byt x j := fun j hj => by
    rw [hs', byt_app_l (by rw [ByteArray.size_append, h1s]; omega)]
    have := get_app_r ⟨#[32]⟩ x j
    rw [h1s] at this
    unfold byt; rw [this]
  have hp : p + x.size ≤ s.size := by
    have h := (thing_ends g2).2 (by rw [g3]; rfl)
    rw [g3] at h
    exact h.2.1
  have hsk : skN s' = 0 := by
    rcases sk_01 s' with h | h
    · exact h
    · have := ((pre3 s').1 ((sk_iff s').1 h)).2.1
      omega
  have hxs : ∀ j, j < x.size → byt s (p + j) = byt x j := fun j hj => by
    have := ext_get s p x.size j hp
    rw [if_pos hj] at this
    unfold byt
    rw [get_list x]
    rw [← g4] at this
    rw [this]; rfl
  unfold lexL
  rw [hsk, alone_ok g2 hx g3 g4 (by
    rcases sk_01 s with h | h
    · right; exact sk_of h
    · left; omega) hsz b0 bl (fun j hj => by rw [hxs j hj, bm j hj]) (by
    have : (s'.extract 1 (1 + x.size)).data.toList = x.data.toList := by
      apply List.ext_getElem?
      intro j
      rw [ext_get s' 1 x.size j (by omega)]
      split
      · rename_i hj
        rw [byt_list hj]
        congr 1
        exact UInt8.toNat_inj.1 (bm j hj)
      · rename_i hj
        rw [List.getElem?_eq_none (by rw [← Lib.size_eq]; omega)]
    exact ba_ext this)]
end Go.Proofs.YtejogobhnbjpdaaDoor
