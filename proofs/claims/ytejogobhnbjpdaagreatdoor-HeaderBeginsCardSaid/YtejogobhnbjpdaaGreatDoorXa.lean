/- Theory: texts that are the same up to a token's end, behind which one has a line feed: their tokens, comments, and headers. -/
import Derived.Test.YtejogobhnbjpdaaGreatDoorUa
namespace Go.Proofs.YtejogobhnbjpdaaGreatDoor
set_option linter.unusedVariables false
set_option linter.unusedSimpArgs false
open Go.ChangeShapes Go.WideShapes Go.ChangeAt Go.RowKit

theorem lNext_le {s : ByteArray} {q : Nat} {l : List Tk} {T : Th} (hok : T.ok = true) (h : ∀ t ∈ l, t.2.2 ≤ q) : ∀ t ∈ lNext s q l T, t.2.2 ≤ q := by
  have hf : ∀ t ∈ feedL l q, t.2.2 ≤ q := fun t ht => by
    obtain ⟨x, h1, h2⟩ := feedL_app2 l q
    rw [h1] at ht
    rcases List.mem_append.1 ht with h3 | h3
    · exact h t h3
    · exact Nat.le_of_eq (h2 t h3).2
  cases T with
  | bad f => cases hok
  | lf => exact hf
  | blank => exact h
  | note e =>
    intro t ht
    have ht : t ∈ (if hasLF s q e = true then feedL l q else l) := ht
    by_cases hl : hasLF s q e = true
    · rw [if_pos hl] at ht; exact hf t ht
    · rw [if_neg hl] at ht; exact h t ht
  | tok k e =>
    intro t ht
    have ht : t ∈ l ++ [(k, s.extract q e, q)] := ht
    rcases List.mem_append.1 ht with h3 | h3
    · exact h t h3
    · rw [List.mem_singleton.1 h3]; exact Nat.le_refl q
theorem mNext_le {s : ByteArray} {q : Nat} {m : List Tk} {T : Th} (h : ∀ t ∈ m, t.2.2 < q) : ∀ t ∈ mNext s q m T, t.2.2 ≤ q := by
  cases T with
  | note e =>
    intro t ht
    have ht : t ∈ m ++ [(0, s.extract q e, q)] := ht
    rcases List.mem_append.1 ht with h3 | h3
    · exact Nat.le_of_lt (h t h3)
    · rw [List.mem_singleton.1 h3]; exact Nat.le_refl q
  | _ => exact fun t ht => Nat.le_of_lt (h t ht)
/-- Comments that come stand behind. -/
theorem lexT_notes (s : ByteArray) : ∀ q l m, ∃ y, (lexT s q l m).2 = m ++ y ∧ ∀ t ∈ y, q ≤ t.2.2 := by
  refine lex_ind s _ ?_ ?_ ?_
  · intro q l m h
    rw [lexT_out h]
    exact ⟨[], by simp, by simp⟩
  · intro q l m f h ht
    rw [lexT_bad h ht]
    exact ⟨[], by simp, by simp⟩
  · intro q l m h hok ih
    rw [lexT_step h hok]
    obtain ⟨y, hy, hy2⟩ := ih
    have he := ((thing_ends h).2 hok).1
    have hz : ∃ z, mNext s q m (thing s q) = m ++ z ∧ ∀ t ∈ z, q ≤ t.2.2 := by
      cases thing s q with
      | note e => exact ⟨_, rfl, fun t ht => by rw [List.mem_singleton.1 ht]; exact Nat.le_refl q⟩
      | _ => exact ⟨[], by simp [mNext], by simp⟩
    obtain ⟨z, hz, hz2⟩ := hz
    refine ⟨z ++ y, by rw [hy, hz, List.append_assoc], fun t ht => ?_⟩
    rcases List.mem_append.1 ht with h3 | h3
    · exact hz2 t h3
    · have := hy2 t h3; omega
/-- Two texts that are the same up to a token's end, behind which the second one has a line feed, are gone through alike up to that token. -/
theorem begins_st {s s' : ByteArray} {n kk p : Nat} {x : ByteArray} (hx : x.size ≠ 0) (hp : p + x.size ≤ s.size) (hp' : p + x.size < s'.size) (hlf : byt s' (p + x.size) = 10)
    (hag : ∀ j, j < p + x.size → byt s j = byt s' j) :
    ∀ q l m, (lexT s q l m).1[n]? = some (kk, x, p) → l.length ≤ n → (∀ t ∈ l, t.2.2 ≤ q) → (∀ t ∈ m, t.2.2 < q) →
      ∃ L M, L.length = n ∧ (∀ t ∈ L, t.2.2 ≤ p) ∧ (∀ t ∈ M, t.2.2 < p) ∧ lexT s q l m = lexT s p L M ∧ lexT s' q l m = lexT s' p L M := by
  refine lex_ind s _ ?_ ?_ ?_
  · intro q l m h hl hlen h1 h2
    exact absurd (lexT_tok s q l m n kk p x hlen hl hx).1 h
  · intro q l m f h ht hl hlen h1 h2
    have := (lexT_tok s q l m n kk p x hlen hl hx).2.1
    rw [ht] at this; cases this
  · intro q l m h hok ih hl hlen h1 h2
    obtain ⟨_, _, h3⟩ := lexT_tok s q l m n kk p x hlen hl hx
    rcases h3 with ⟨h3, h4, _⟩ | ⟨h3, h4⟩
    · subst h4
      exact ⟨l, m, h3.symm, h1, h2, rfl, rfl⟩
    obtain ⟨he1, he2, he3⟩ := (thing_ends h).2 hok
    have hst := lexT_step h hok l m
    rw [hst] at hl ⊢
    obtain ⟨h5, h6, h7⟩ := lexT_tok s _ _ _ n kk p x h4 hl hx
    have ha : Ag s s' q q ((thing s q).en q - q) := ⟨by omega, by omega, fun j hj => hag _ (by omega)⟩
    have h8 := (thing_ends h5).2 h6
    have h9 : (thing s q).en q + (runeAt s ((thing s q).en q)).2 ≤ p + x.size := by
      rcases h7 with ⟨_, g8, g9, _⟩ | ⟨g8, _⟩
      · rw [g9] at h8
        have : (thing s q).en q + (runeAt s ((thing s q).en q)).2 ≤ (thing s q).en q + x.size := h8.2.2
        omega
      · omega
    have hrn := rune_loc (s := s) (s' := s') (q := (thing s q).en q) (q' := (thing s q).en q) h5 (ok_pos h5 h6) ⟨by omega, by omega, fun j hj => hag _ (by omega)⟩ (.inl rfl)
    have hlt' : (thing s q).en q < s'.size := by omega
    have e0 : q + ((thing s q).en q - q) = (thing s q).en q := by omega
    have hth := thing_loc h hok ha (.inl rfl) (.inr (.inr (by
      rw [e0]
      exact .inr ⟨h5, hlt', (hag _ (by omega)).symm, by rw [rn_in hlt', rn_in h5, hrn]⟩))) (fun g9 h10 ⟨h11, h12, h13⟩ => by
        rw [← hag _ (by omega)] at h12
        obtain ⟨hs1, ht1⟩ := dot_one (by omega) h10 h12 g9
        rcases Nat.lt_or_ge (q + 2) (p + x.size) with hk | hk
        · have h13 : byt s (q + 2) = 46 := by rw [hag _ hk]; exact h13
          have := three_dots (by omega) h10 h12 h13
          omega
        · have e2 : q + 2 = p + x.size := by omega
          have h13 : byt s' (q + 2) = 46 := h13
          rw [e2, hlf] at h13
          exact absurd h13 (by decide))
    rw [sh_id h] at hth
    have hok' : (thing s' q).ok = true := by rw [hth]; exact hok
    have hst' := lexT_step (s := s') (q := q) (by omega) hok' l m
    have hna := next_ag h hok ha l m
    rw [hst', hth, hna.1, hna.2]
    exact ih hl h4 (fun t ht => by have := lNext_le hok h1 t ht; omega) (fun t ht => by have := mNext_le (T := thing s q) (s := s) h2 t ht; omega)
theorem lex_begins {s s' : ByteArray} {n kk p : Nat} {x : ByteArray} (h1 : (lexL s)[n]? = some (kk, x, p)) (hx : x.size ≠ 0) (hp' : p + x.size < s'.size) (hlf : byt s' (p + x.size) = 10)
    (hag : ∀ j, j < p + x.size → byt s j = byt s' j) :
    p + x.size ≤ s.size ∧ skN s' = skN s ∧ ∃ L M, L.length = n ∧ (∀ t ∈ L, t.2.2 ≤ p) ∧ (∀ t ∈ M, t.2.2 < p) ∧ lexT s (skN s) [] [] = lexT s p L M ∧ lexT s' (skN s') [] [] = lexT s' p L M := by
  obtain ⟨g1, g2, g3, g4⟩ := lexT_at s (skN s) [] [] n kk p x (Nat.zero_le _) h1 hx
  have hp : p + x.size ≤ s.size := by
    have h := (thing_ends g2).2 (by rw [g3]; rfl)
    rw [g3] at h
    exact h.2.1
  have hsk : skN s' = skN s := by
    apply sk_eq
    rw [Bool.eq_iff_iff, pre3, pre3]
    constructor
    · rintro ⟨a1, a2, a3, a4⟩
      have b0 : byt s 0 = 239 := by rw [hag 0 (by omega)]; exact a2
      rcases sk_01 s with hs | hs
      · have h1 : (lexT s 0 [] []).1[n]? = some (kk, x, p) := by have h := h1; unfold lexL at h; rw [hs] at h; exact h
        obtain ⟨c1, c2, c3⟩ := lexT_tok s 0 [] [] n kk p x (Nat.zero_le _) h1 hx
        have c4 := (thing_ends c1).2 c2
        obtain ⟨m, m1, m4, _, hg, er, _⟩ := rune_good c1 (ok_pos c1 c2)
        have hm : m = 3 := by
          unfold byt at b0
          rcases (by omega : m = 1 ∨ m = 2 ∨ m = 3 ∨ m = 4) with rfl | rfl | rfl | rfl
          · have := (good1 s 0 c1).1 hg; omega
          · have := (good2 s 0 c1).1 hg; omega
          · rfl
          · have := (good4 s 0 c1).1 hg; omega
        subst hm
        have er2 : (runeAt s 0).2 = 3 := by rw [er]
        have hen : 3 ≤ p + x.size := by
          rcases c3 with ⟨_, d1, d2, _⟩ | ⟨d1, _⟩
          · subst d1
            rw [d2] at c4
            have c5 : 0 + (runeAt s 0).2 ≤ 0 + x.size := c4.2.2
            omega
          · omega
        exact ⟨by omega, b0, by rw [hag 1 (by omega)]; exact a3, by rw [hag 2 (by omega)]; exact a4⟩
      · exact (pre3 s).1 ((sk_iff s).1 hs)
    · rintro ⟨a1, a2, a3, a4⟩
      have hs := (sk_iff s).2 ((pre3 s).2 ⟨a1, a2, a3, a4⟩)
      rw [hs] at g1
      exact ⟨by omega, by rw [← hag 0 (by omega)]; exact a2, by rw [← hag 1 (by omega)]; exact a3, by rw [← hag 2 (by omega)]; exact a4⟩
  refine ⟨hp, hsk, ?_⟩
  rw [hsk]
  exact begins_st hx hp hp' hlf hag (skN s) [] [] h1 (Nat.zero_le _) (fun t ht => by cases ht) (fun t ht => by cases ht)

/-- Tokens that agree up to where the beginning ends: the beginning. -/
theorem specR_ag {T T' : List Tk} {i : Nat} (h : ∀ j, i ≤ j → j ≤ (specR T i).2 → tk T' j = tk T j) : specR T' i = specR T i := by
  have hg := specR_ge T i
  have h0 := h i (Nat.le_refl _) hg
  have hn : nx (named (tk T i)) i ≤ (specR T i).2 := by
    unfold specR
    split
    · exact Nat.le_succ _
    · exact Nat.le_refl _
  have hi : i ≤ nx (named (tk T i)) i := by unfold nx; split <;> omega
  have h1 := h _ hi hn
  unfold specR
  rw [h0, h1]
theorem specsR_ge (T : List Tk) : ∀ (n i : Nat) (I : List Im), T.length - i ≤ n → i ≤ (specsR T i I).2.1 := by
  intro n
  induction n with
  | zero =>
    intro i I hn
    rw [specsR, dif_neg (by omega)]
    exact Nat.le_refl _
  | succ n ih =>
    intro i I hn
    by_cases hi : i < T.length
    · cases hc : tIs 5 ⟨#[41]⟩ (tk T i) with
      | true => rw [specsR_close I hi hc]; exact Nat.le_succ _
      | false =>
        have hg := specR_ge T i
        cases hs : (specR T i).1 with
        | none => rw [specsR_none I hi hc hs]; exact hg
        | some m =>
          have hp := specR_pos hs
          rw [specsR_some I hi hc hs]
          split
          · have := ih ((specR T i).2 + 1) (I ++ [m]) (by omega); omega
          · split
            · have := ih (specR T i).2 (I ++ [m]) (by omega); omega
            · exact hg
    · rw [specsR, dif_neg hi]; exact Nat.le_refl _
theorem specsR_ag {T T' : List Tk} : ∀ (n i : Nat) (I : List Im), T.length - i ≤ n → (specsR T i I).2.1 < T.length → (specsR T i I).2.1 < T'.length → (∀ j, i ≤ j → j ≤ (specsR T i I).2.1 → tk T' j = tk T j) → specsR T' i I = specsR T i I := by
  intro n
  induction n with
  | zero =>
    intro i I hn h1 h2 h
    have := specsR_ge T _ i I (Nat.le_refl _)
    omega
  | succ n ih =>
    intro i I hn h1 h2 h
    have hge := specsR_ge T _ i I (Nat.le_refl _)
    have hi : i < T.length := by omega
    have hi' : i < T'.length := by omega
    have h0 := h i (Nat.le_refl _) hge
    cases hc : tIs 5 ⟨#[41]⟩ (tk T i) with
    | true => rw [specsR_close I hi hc, specsR_close I hi' (by rw [h0]; exact hc)]
    | false =>
      have hc' : tIs 5 ⟨#[41]⟩ (tk T' i) = false := by rw [h0]; exact hc
      have hg := specR_ge T i
      cases hs : (specR T i).1 with
      | none =>
        rw [specsR_none I hi hc hs] at h
        have ha := specR_ag h
        rw [specsR_none I hi hc hs, specsR_none I hi' hc' (by rw [ha]; exact hs), ha]
      | some m =>
        have hp := specR_pos hs
        have hsm := specsR_some I hi hc hs
        have hle : (specR T i).2 ≤ (specsR T i I).2.1 := by
          rw [hsm]
          split
          · have := specsR_ge T _ ((specR T i).2 + 1) (I ++ [m]) (Nat.le_refl _); omega
          · split
            · exact specsR_ge T _ (specR T i).2 (I ++ [m]) (Nat.le_refl _)
            · exact Nat.le_refl _
        have ha : specR T' i = specR T i := specR_ag (fun j j1 j2 => h j j1 (by omega))
        have h3 := h _ hg hle
        rw [specsR_some I hi' hc' (by rw [ha]; exact hs), ha, h3, hsm]
        rw [hsm] at h1 h2 h
        by_cases c1 : tSemi (tk T (specR T i).2) = true
        · rw [if_pos c1] at h1 h2 h ⊢
          rw [if_pos c1]
          exact ih _ _ (by omega) h1 h2 (fun j j1 j2 => h j (by omega) j2)
        · rw [if_neg c1] at h1 h2 h ⊢
          rw [if_neg c1]
          by_cases c2 : (tk T (specR T i).2).2.1 = ⟨#[41]⟩
          · rw [if_pos c2] at h1 h2 h ⊢
            rw [if_pos c2]
            exact ih _ _ (by omega) h1 h2 (fun j j1 j2 => h j (by omega) j2)
          · rw [if_neg c2, if_neg c2]
theorem specs1_ge (T : List Tk) (i : Nat) (I : List Im) : i ≤ (specs1 T i I).2.1 := by
  unfold specs1
  split
  · have := specsR_ge T _ (i + 1) I (Nat.le_refl _); omega
  · exact specR_ge T i
theorem specs1_ag {T T' : List Tk} {i : Nat} {I : List Im} (h1 : (specs1 T i I).2.1 < T.length) (h2 : (specs1 T i I).2.1 < T'.length) (h : ∀ j, i ≤ j → j ≤ (specs1 T i I).2.1 → tk T' j = tk T j) : specs1 T' i I = specs1 T i I := by
  have h0 := h i (Nat.le_refl _) (specs1_ge T i I)
  unfold specs1 at h1 h2 h ⊢
  rw [h0]
  by_cases hc : tIs 5 ⟨#[40]⟩ (tk T i) = true
  · rw [if_pos hc] at h1 h2 h ⊢
    rw [if_pos hc]
    exact specsR_ag _ _ _ (Nat.le_refl _) h1 h2 (fun j j1 j2 => h j (by omega) j2)
  · rw [if_neg hc] at h ⊢
    rw [if_neg hc, specR_ag h]
theorem declR_ge (T : List Tk) : ∀ (n i : Nat) (I : List Im), T.length - i ≤ n → i ≤ (declR T i I).2.1 := by
  intro n
  induction n with
  | zero => intro i I hn; rw [declR, dif_neg (by omega)]; exact Nat.le_refl _
  | succ n ih =>
    intro i I hn
    by_cases hi : i < T.length
    · cases hc : tIs 1 wImport (tk T i) with
      | false => rw [declR_end I hi hc]; exact Nat.le_refl _
      | true =>
        have hg := specs1_ge T (i + 1) I
        cases hs : (specs1 T (i + 1) I).1 with
        | false => rw [declR_bad I hi hc (by omega) hs]; show i ≤ (specs1 T (i + 1) I).2.1; omega
        | true =>
          rw [declR_on I hi hc (by omega) hs]
          split
          · have := ih ((specs1 T (i + 1) I).2.1 + 1) (specs1 T (i + 1) I).2.2 (by omega); omega
          · show i ≤ (specs1 T (i + 1) I).2.1; omega
    · rw [declR, dif_neg hi]; exact Nat.le_refl _
theorem declR_ag {T T' : List Tk} : ∀ (n i : Nat) (I : List Im), T.length - i ≤ n → (declR T i I).2.1 < T.length → (declR T i I).2.1 < T'.length → (∀ j, i ≤ j → j ≤ (declR T i I).2.1 → tk T' j = tk T j) → declR T' i I = declR T i I := by
  intro n
  induction n with
  | zero =>
    intro i I hn h1 h2 h
    have := declR_ge T _ i I (Nat.le_refl _)
    omega
  | succ n ih =>
    intro i I hn h1 h2 h
    have hge := declR_ge T _ i I (Nat.le_refl _)
    have hi : i < T.length := by omega
    have hi' : i < T'.length := by omega
    have h0 := h i (Nat.le_refl _) hge
    cases hc : tIs 1 wImport (tk T i) with
    | false => rw [declR_end I hi hc, declR_end I hi' (by rw [h0]; exact hc)]
    | true =>
      have hc' : tIs 1 wImport (tk T' i) = true := by rw [h0]; exact hc
      have hg := specs1_ge T (i + 1) I
      cases hs : (specs1 T (i + 1) I).1 with
      | false =>
        rw [declR_bad I hi hc (by omega) hs] at h h1 h2
        have ha := specs1_ag h1 h2 (fun j j1 j2 => h j (by omega) j2)
        rw [declR_bad I hi hc (by omega) hs, declR_bad I hi' hc' (by rw [ha]; omega) (by rw [ha]; exact hs), ha]
      | true =>
        have hon := declR_on I hi hc (by omega) hs
        have hle : (specs1 T (i + 1) I).2.1 ≤ (declR T i I).2.1 := by
          rw [hon]
          split
          · have := declR_ge T _ ((specs1 T (i + 1) I).2.1 + 1) (specs1 T (i + 1) I).2.2 (Nat.le_refl _); omega
          · exact Nat.le_refl _
        have ha : specs1 T' (i + 1) I = specs1 T (i + 1) I := specs1_ag (by omega) (by omega) (fun j j1 j2 => h j (by omega) (by omega))
        have h3 := h (specs1 T (i + 1) I).2.1 (by omega) hle
        rw [declR_on I hi' hc' (by rw [ha]; omega) (by rw [ha]; exact hs), ha, h3, hon]
        rw [hon] at h1 h2 h
        by_cases c1 : tSemi (tk T (specs1 T (i + 1) I).2.1) = true
        · rw [if_pos c1] at h1 h2 h ⊢
          rw [if_pos c1]
          exact ih _ _ (by omega) h1 h2 (fun j j1 j2 => h j (by omega) j2)
        · rw [if_neg c1, if_neg c1]
theorem clauseR_ag {T T' : List Tk} (h : ∀ j, j ≤ (clauseR T).2 → tk T' j = tk T j) : clauseR T' = clauseR T := by
  have h0 := h 0 (Nat.zero_le _)
  unfold clauseR at h ⊢
  rw [h0]
  by_cases c0 : tIs 1 wPackage (tk T 0) = false
  · rw [if_pos c0, if_pos c0]
  · rw [if_neg c0] at h ⊢
    rw [if_neg c0]
    have h1 : tk T' 1 = tk T 1 := h 1 (by split <;> (try split) <;> (try split) <;> simp)
    rw [h1]
    by_cases c1 : (tk T 1).2.1 = ⟨#[95]⟩
    · rw [if_pos c1, if_pos c1]
    · rw [if_neg c1] at h ⊢
      rw [if_neg c1]
      by_cases c2 : tName (tk T 1) = false
      · rw [if_pos c2, if_pos c2]
      · rw [if_neg c2] at h ⊢
        rw [if_neg c2]
        have h2 : tk T' 2 = tk T 2 := h 2 (by split <;> simp)
        rw [h2]
theorem beginR_ag {T T' : List Tk} (h1 : (beginR T).2.1 < T.length) (h2 : (beginR T).2.1 < T'.length) (h : ∀ j, j ≤ (beginR T).2.1 → tk T' j = tk T j) : beginR T' = beginR T := by
  have hcl : (clauseR T).1 = true → (clauseR T).2 = 3 := by
    unfold clauseR
    split
    · intro h; cases h
    · split
      · intro h; cases h
      · split
        · intro h; cases h
        · split
          · intro h; cases h
          · intro _; rfl
  have hb : ∀ c, beginR T = (c, (beginR T).2) → True := fun _ _ => trivial
  by_cases hc : (clauseR T).1 = false
  · have e : beginR T = (if (tk T (clauseR T).2).1 = 7 then 1 else 2, (clauseR T).2, []) := by unfold beginR; rw [if_pos hc]
    rw [e] at h
    have ha := clauseR_ag h
    have h3 : tk T' (clauseR T).2 = tk T (clauseR T).2 := h _ (Nat.le_refl _)
    rw [e]
    unfold beginR
    rw [ha, if_pos hc, h3]
  · have hc1 : (clauseR T).1 = true := by cases hq : (clauseR T).1 <;> simp_all
    have e1 : (beginR T).2.1 = (declR T 3 []).2.1 := by
      unfold beginR; rw [if_neg hc]; split <;> rfl
    rw [e1] at h h1 h2
    have hge := declR_ge T _ 3 [] (Nat.le_refl _)
    have ha : clauseR T' = clauseR T := clauseR_ag (fun j hj => h j (by rw [hcl hc1] at hj; omega))
    have hd : declR T' 3 [] = declR T 3 [] := declR_ag _ _ _ (Nat.le_refl _) h1 h2 (fun j _ j2 => h j j2)
    have h3 := h _ (Nat.le_refl _)
    unfold beginR
    rw [ha, if_neg hc, if_neg hc, hd, h3]

theorem filter_eq {α : Type} {p q : α → Bool} : ∀ (l : List α), (∀ x ∈ l, p x = q x) → l.filter p = l.filter q
  | [], _ => rfl
  | x :: l, h => by
    rw [List.filter_cons, List.filter_cons, h x List.mem_cons_self, filter_eq l (fun y hy => h y (List.mem_cons_of_mem _ hy))]
theorem filter_no {α : Type} {p : α → Bool} {l : List α} (h : ∀ x ∈ l, p x = false) : l.filter p = [] :=
  List.filter_eq_nil_iff.2 fun x hx => by rw [h x hx]; exact Bool.noConfusion
theorem ext_front {s s' : ByteArray} {a e : Nat} (ha : a ≤ e) (h1 : e ≤ s.size) (h2 : e ≤ s'.size) (hag : ∀ j, j < e → byt s j = byt s' j) : s'.extract 0 a = s.extract 0 a := by
  have := ext_ag (s := s) (s' := s') (q := 0) (q' := 0) (n := a) ⟨by omega, by omega, fun j hj => by rw [Nat.zero_add]; exact hag _ (by omega)⟩
  rw [Nat.zero_add] at this
  exact this
/-- HeaderBegins. -/
theorem parse_begins {s s' : ByteArray} {kk p : Nat} {x : ByteArray} (F : EndT (lexL s)) (h1 : (lexL s)[(beginR (lexL s)).2.1]? = some (kk, x, p)) (h1' : (lexL s')[(beginR (lexL s)).2.1]? = some (kk, x, p)) (hx : x.size ≠ 0)
    (hp' : p + x.size < s'.size) (hlf : byt s' (p + x.size) = 10) (hag : ∀ j, j < p + x.size → byt s j = byt s' j) : parseR s' = parseR s := by
  obtain ⟨hps, hsk, L, M, hL, hLp, hMp, hS, hS'⟩ := lex_begins h1 hx hp' hlf hag
  obtain ⟨y, hy⟩ := lexT_pre s p L M
  obtain ⟨y', hy'⟩ := lexT_pre s' p L M
  obtain ⟨z, hz, hz2⟩ := lexT_notes s p L M
  obtain ⟨z', hz', hz2'⟩ := lexT_notes s' p L M
  have eL : lexL s = L ++ y := by unfold lexL; rw [hS]; exact hy
  have eL' : lexL s' = L ++ y' := by unfold lexL; rw [hS']; exact hy'
  have eM : lexM s = M ++ z := by unfold lexM; rw [hS]; exact hz
  have eM' : lexM s' = M ++ z' := by unfold lexM; rw [hS']; exact hz'
  have hn := (beginR_ok F).1
  have hn' : (beginR (lexL s)).2.1 < (lexL s').length := (List.getElem?_eq_some_iff.1 h1').1
  have hb3 := (beginR_ok F).2
  have htk : ∀ j, j ≤ (beginR (lexL s)).2.1 → tk (lexL s') j = tk (lexL s) j := fun j hj => by
    rcases Nat.lt_or_ge j (beginR (lexL s)).2.1 with hlt | hge
    · unfold tk
      rw [List.getD_eq_getElem?_getD, List.getD_eq_getElem?_getD, eL, eL', List.getElem?_append_left (by omega), List.getElem?_append_left (by omega)]
    · obtain rfl : j = (beginR (lexL s)).2.1 := by omega
      unfold tk
      rw [List.getD_eq_getElem?_getD, List.getD_eq_getElem?_getD, h1, h1']
  have hB := beginR_ag hn hn' htk
  have htn : (tk (lexL s) (beginR (lexL s)).2.1).2.2 = p := by
    unfold tk
    rw [List.getD_eq_getElem?_getD, h1]; rfl
  by_cases hf : (beginR (lexL s)).1 = 0
  case neg =>
    rw [parse_wrong hf, parse_wrong (by rw [hB]; exact hf), hB, htk _ (Nat.le_refl _)]
  have h3 := hb3 hf
  have hfirst : (tk (lexL s) 0).2.2 ≤ p := by
    have : tk (lexL s) 0 ∈ L := by
      have e : (lexL s)[0]? = L[0]? := by rw [eL, List.getElem?_append_left (by omega)]
      have e2 := tk_some (T := lexL s) (i := 0) F.pos
      rw [e] at e2
      exact List.mem_of_getElem? e2
    exact hLp _ this
  have ext : ∀ a, a ≤ p → s'.extract 0 a = s.extract 0 a := fun a ha => ext_front (e := p + x.size) (by omega) hps (by omega) hag
  have hal : ∀ t ∈ M, aloneB s' t = aloneB s t := fun t ht => by
    unfold aloneB
    rw [ext _ (Nat.le_of_lt (hMp t ht))]
  have hfil : ∀ (fr : Int) (up : Nat), up ≤ p → (notesR s').filter (inB fr (up : Nat)) = (notesR s).filter (inB fr (up : Nat)) := fun fr up hu => by
    have hno : ∀ (zz : List Tk) (ss : ByteArray), (∀ t ∈ zz, p ≤ t.2.2) → (zz.filter (aloneB ss)).filter (inB fr (up : Nat)) = [] := fun zz ss h => filter_no fun t ht => by
      have := h t (List.mem_filter.1 ht).1
      unfold inB
      rw [decide_eq_false (show ¬ (t.2.2 : Int) < (up : Nat) by omega), Bool.and_false]
    unfold notesR
    rw [eM, eM', List.filter_append, List.filter_append, List.filter_append, List.filter_append, hno z s hz2, hno z' s' hz2', filter_eq M hal]
  have hfr : frontR s' = frontR s := by
    unfold frontR
    rw [htk 0 (Nat.zero_le _)]
    exact hfil _ _ hfirst
  have hbk : backR s' = backR s := by
    unfold backR
    rw [hB, htk 2 (by omega), htk _ (Nat.le_refl _)]
    exact hfil _ _ (Nat.le_of_eq htn)
  have hcon : conR s' (frontR s') (tk (lexL s') 0).2.2 = conR s (frontR s) (tk (lexL s) 0).2.2 := by
    rw [hfr, htk 0 (Nat.zero_le _)]
    unfold conR
    rw [ext _ hfirst]
  unfold parseR
  rw [hB, hcon, hbk, htk _ (Nat.le_refl _), htk 1 (by omega)]
end Go.Proofs.YtejogobhnbjpdaaGreatDoor
