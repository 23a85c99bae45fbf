/- The theory of tokens: what the statements GolexBegins, GolexParts, GolexAlone say. -/
import Derived.Test.YtejogobhnbjpdaaDoorGx
namespace Go.Proofs.YtejogobhnbjpdaaDoor
set_option linter.unusedVariables false
set_option linter.unusedSimpArgs false

theorem sh_id {s : ByteArray} {q : Nat} (h : q < s.size) : (thing s q).sh q q = thing s q := by
  have h1 := thing_ends h
  cases ht : thing s q with
  | bad f => have := h1.1 f ht; show Th.bad _ = Th.bad _; congr 1; omega
  | lf => rfl
  | blank => rfl
  | note e => rw [ht] at h1; have h2 : q < e := (h1.2 rfl).1; show Th.note _ = Th.note _; congr 1; omega
  | tok k e => rw [ht] at h1; have h2 : q < e := (h1.2 rfl).1; show Th.tok _ _ = Th.tok _ _; congr 1; omega
theorem next_ag {s s' : ByteArray} {q : Nat} (h : q < s.size) (hok : (thing s q).ok = true) (ha : Ag s s' q q ((thing s q).en q - q)) (l m : List Tk) : lNext s' q l (thing s q) = lNext s q l (thing s q) ∧ mNext s' q m (thing s q) = mNext s q m (thing s q) := by
  have h1 := ((thing_ends h).2 hok).1
  cases ht : thing s q with
  | bad f => exact ⟨rfl, rfl⟩
  | lf => exact ⟨rfl, rfl⟩
  | blank => exact ⟨rfl, rfl⟩
  | note e =>
    rw [ht] at ha h1
    have ha : Ag s s' q q (e - q) := ha
    have h1 : q < e := h1
    have e1 := lf_ag ha
    have e2 := ext_ag ha
    rw [show q + (e - q) = e by omega] at e1 e2
    refine ⟨?_, ?_⟩
    · show (if hasLF s' q e = true then feedL l q else l) = (if hasLF s q e = true then feedL l q else l)
      rw [e1]
    · show m ++ [(0, s'.extract q e, q)] = m ++ [(0, s.extract q e, q)]
      rw [e2]
  | tok k e =>
    rw [ht] at ha h1
    have ha : Ag s s' q q (e - q) := ha
    have h1 : q < e := h1
    have e2 := ext_ag ha
    rw [show q + (e - q) = e by omega] at e2
    refine ⟨?_, rfl⟩
    show l ++ [(k, s'.extract q e, q)] = l ++ [(k, s.extract q e, q)]
    rw [e2]
theorem dot_one {s : ByteArray} {q : Nat} (hq : q + 1 < s.size) (h0 : byt s q = 46) (h1 : byt s (q + 1) = 46) (he : (thing s q).en q = q + 1) : signN s q = 1 ∧ thing s q = .tok 5 (q + 1) := by
  rcases dot_cases (by omega) h0 with h | ⟨_, h⟩
  · exfalso
    rw [h] at he
    have he : numE s (hexP s q) (q + 1) = q + 1 := he
    have := num_next (s := s) (hex := hexP s q) (q := q + 1) hq (by rw [h1]; unfold inNum; rw [if_pos rfl])
    omega
  · rw [h] at he ⊢
    have he : q + signN s q = q + 1 := he
    exact ⟨by omega, by rw [he]⟩

/-- GolexBegins. -/
theorem begins_ok {s s' : ByteArray} {k kk p : Nat} {x : ByteArray} (hx : x.size ≠ 0) (hp : p + x.size ≤ s.size) (hp' : p + x.size ≤ s'.size) (hag : ∀ j, j < p + x.size → byt s j = byt s' j) :
    ∀ q l m, (lexT s q l m).1[k + 1]? = some (kk, x, p) → (∀ t, (lexT s q l m).1[k]? = some t → t.2.1 ≠ ⟨#[46]⟩) → l.length ≤ k + 1 → (lexT s' q l m).1.take (k + 1) = (lexT s q l m).1.take (k + 1) := by
  have both : ∀ q l m, l.length = k + 1 → (lexT s' q l m).1.take (k + 1) = (lexT s q l m).1.take (k + 1) := fun q l m h => by
    obtain ⟨y, hy⟩ := lexT_pre s q l m
    obtain ⟨y', hy'⟩ := lexT_pre s' q l m
    rw [hy, hy', ← h, List.take_left, List.take_left]
  refine lex_ind s _ ?_ ?_ ?_
  · intro q l m h hl hd hlen
    rcases Nat.lt_or_ge l.length (k + 1) with h1 | h1
    · exact absurd (lexT_tok s q l m (k + 1) kk p x (by omega) hl hx).1 h
    · exact both q l m (by omega)
  · intro q l m f h ht hl hd hlen
    rcases Nat.lt_or_ge l.length (k + 1) with h1 | h1
    · have := (lexT_tok s q l m (k + 1) kk p x (by omega) hl hx).2.1
      rw [ht] at this; cases this
    · exact both q l m (by omega)
  · intro q l m h hok ih hl hd hlen
    by_cases h1 : l.length = k + 1
    · exact both q l m h1
    obtain ⟨_, _, h2⟩ := lexT_tok s q l m (k + 1) kk p x (by omega) hl hx
    rcases h2 with ⟨h2, _⟩ | ⟨h2, h3⟩
    · omega
    obtain ⟨he1, he2, he3⟩ := (thing_ends h).2 hok
    have hst := lexT_step h hok l m
    rw [hst] at hl hd ⊢
    obtain ⟨h4, h5, h6⟩ := lexT_tok s _ _ _ (k + 1) kk p x h3 hl hx
    have ha : Ag s s' q q ((thing s q).en q - q) := ⟨by omega, by omega, fun j hj => hag _ (by omega)⟩
    have h7 := (thing_ends h4).2 h5
    have h8 : (thing s q).en q + (runeAt s ((thing s q).en q)).2 ≤ p + x.size := by
      rcases h6 with ⟨_, h8, h9, _⟩ | ⟨h8, _⟩
      · rw [h9] at h7
        have : (thing s q).en q + (runeAt s ((thing s q).en q)).2 ≤ (thing s q).en q + x.size := h7.2.2
        omega
      · omega
    have hrn := rune_loc (s := s) (s' := s') (q := (thing s q).en q) (q' := (thing s q).en q) h4 (ok_pos h4 h5) ⟨by omega, by omega, fun j hj => hag _ (by omega)⟩ (.inl rfl)
    have hlt' : (thing s q).en q < s'.size := by omega
    have e0 : q + ((thing s q).en q - q) = (thing s q).en q := by omega
    have hth := thing_loc h hok ha (.inl rfl) (.inr (.inr (by
      rw [e0]
      exact .inr ⟨h4, hlt', (hag _ (by omega)).symm, by rw [rn_in hlt', rn_in h4, hrn]⟩))) (fun h9 h10 ⟨h11, h12, h13⟩ => by
        rw [← hag _ (by omega)] at h12
        obtain ⟨hs1, ht1⟩ := dot_one (by omega) h10 h12 h9
        have hln : lNext s q l (thing s q) = l ++ [(5, s.extract q (q + 1), q)] := by rw [ht1]; rfl
        rcases Nat.lt_or_ge l.length k with hk | hk
        · rw [h9] at h6
          have h14 : (thing s (q + 1)).isTok = true := by
            rcases dot_cases (by omega) h12 with h | ⟨_, h⟩ <;> (rw [h]; rfl)
          rcases h6 with ⟨h6, _⟩ | ⟨h6, _⟩
          · rw [hln, List.length_append, List.length_singleton] at h6; omega
          · rw [h9] at h7
            have h13 : byt s (q + 2) = 46 := by rw [hag _ (by omega)]; exact h13
            have := three_dots (by omega) h10 h12 h13
            omega
        · obtain rfl : k = l.length := by omega
          obtain ⟨y, hy⟩ := lexT_pre s ((thing s q).en q) (lNext s q l (thing s q)) (mNext s q m (thing s q))
          refine hd (5, s.extract q (q + 1), q) ?_ ?_
          · rw [hy, hln, List.append_assoc, List.getElem?_append_right (Nat.le_refl _), Nat.sub_self]; rfl
          · show s.extract q (q + 1) = ⟨#[46]⟩
            have : (s.extract q (q + 1)).data.toList = [46] := by
              apply List.ext_getElem?
              intro i
              rw [ext_get s q 1 i (by omega)]
              by_cases hi : i < 1
              · obtain rfl : i = 0 := by omega
                rw [if_pos hi, Nat.add_zero]
                unfold byt at h10
                rw [UInt8.toNat_inj.1 (h10.trans (show 46 = (46 : UInt8).toNat from rfl))]; rfl
              · rw [if_neg hi, List.getElem?_eq_none (by simp; omega)]
            exact ByteArray.ext (Array.ext' this))
    rw [sh_id h] at hth
    have hok' : (thing s' q).ok = true := by rw [hth]; exact hok
    have hst' := lexT_step (s := s') (q := q) (by omega) hok' l m
    have hna := next_ag h hok ha l m
    rw [hst', hth, hna.1, hna.2]
    exact ih hl hd h3

theorem dig_not32 : digR 32 = false := by decide
/-- GolexAlone. -/
theorem alone_ok {s s' : ByteArray} {q k : Nat} {x : ByteArray} (hq : q < s.size) (hx : x.size ≠ 0) (ht : thing s q = .tok k (q + x.size)) (hxe : x = s.extract q (q + x.size)) (hm : 0 < q ∨ (runeAt s 0).1 ≠ 65279)
    (hsz : s'.size = x.size + 2) (h0 : byt s' 0 = 32) (h1 : byt s' (x.size + 1) = 32) (hmid : ∀ j, j < x.size → byt s (q + j) = byt s' (1 + j)) (hex : s'.extract 1 (1 + x.size) = x) :
    lexT s' 0 [] [] = (feedL [(k, x, 1)] s'.size ++ [(0, ⟨#[]⟩, s'.size)], []) := by
  have bl : ∀ i, i < s'.size → byt s' i = 32 → thing s' i = .blank := fun i hi hb => by
    rw [thing_eq, (rune_byte hi 32 (by omega) (by omega)).2 hb, if_neg (by decide), if_pos (by decide)]
  have t0 := bl 0 (by omega) h0
  have t1 := bl (x.size + 1) (by omega) h1
  have hok : (thing s q).ok = true := by rw [ht]; rfl
  have he := (thing_ends hq).2 hok
  rw [ht] at he
  have he2 : q + x.size ≤ s.size := he.2.1
  have hth : thing s' 1 = (thing s q).sh q 1 := by
    refine thing_loc hq hok ?_ (by rcases hm with h | h; (· exact .inr (.inl h)); (· exact .inr (.inr h))) (.inr (.inr (.inl ?_))) ?_
    · rw [ht]
      show Ag s s' q 1 (q + x.size - q)
      rw [Nat.add_sub_cancel_left]
      exact ⟨he2, by omega, hmid⟩
    · rw [ht]
      show true = true ∧ 1 + (q + x.size - q) < s'.size ∧ byt s' (1 + (q + x.size - q)) = 32
      rw [Nat.add_sub_cancel_left, Nat.add_comm 1]
      exact ⟨rfl, by omega, h1⟩
    · rw [ht]
      intro h2 h3 h4
      have h2 : q + x.size = q + 1 := h2
      have h5 : byt s' (1 + 1) = 32 := by rw [← h1]; congr 1; omega
      rw [h5] at h4
      omega
  have hth : thing s' 1 = .tok k (1 + x.size) := by
    rw [hth, ht]
    show Th.tok k (1 + (q + x.size - q)) = _
    rw [Nat.add_sub_cancel_left]
  rw [lexT_step (by omega) (by rw [t0]; rfl), t0]
  show lexT s' 1 [] [] = _
  rw [lexT_step (by omega) (by rw [hth]; rfl), hth]
  show lexT s' (1 + x.size) ([] ++ [(k, s'.extract 1 (1 + x.size), 1)]) [] = _
  rw [hex, Nat.add_comm 1, lexT_step (by omega) (by rw [t1]; rfl), t1]
  show lexT s' (x.size + 1 + 1) [(k, x, 1)] [] = _
  rw [lexT_out (by omega)]

/-- No line feed behind the last token would be a semicolon. -/
def nfL (l : List Tk) : Prop := ∀ t, l.getLast? = some t → endsB t = false
theorem nf_feed (l : List Tk) (q : Nat) : nfL (feedL l q) := by
  unfold feedL nfL
  cases h : l.getLast? with
  | none => intro t ht; rw [h] at ht; cases ht
  | some t =>
    intro u hu
    have hu : (if endsB t = true then l ++ [(6, (⟨#[]⟩ : ByteArray), q)] else l).getLast? = some u := hu
    by_cases he : endsB t = true
    · rw [if_pos he, List.getLast?_concat] at hu
      injection hu with hu
      subst hu; rfl
    · rw [if_neg he, h] at hu
      injection hu with hu
      subst hu; exact Bool.eq_false_iff.2 he
theorem feed_nf {l : List Tk} (h : nfL l) (q : Nat) : feedL l q = l := by
  unfold feedL
  cases hl : l.getLast? with
  | none => rfl
  | some t => show (if endsB t = true then _ else l) = l; rw [if_neg (by rw [h t hl]; decide)]
theorem letR_byt {s : ByteArray} {q : Nat} (hq : q < s.size) (h : (letR (runeAt s q).1 || digR (runeAt s q).1) = true) : ∀ j, q ≤ j → j < q + (runeAt s q).2 → byt s j ≠ 10 := by
  have h0 : 0 ≤ (runeAt s q).1 := by
    rcases Bool.or_eq_true_iff.1 h with x | x
    · exact letR_pos x
    · exact digR_pos x
  intro j h1 h2 h3
  rcases rune_tail hq h0 with h4 | h4
  · obtain rfl : j = q := by omega
    rw [(rune_byte hq 10 (by omega) (by omega)).2 h3] at h
    exact absurd h (by decide)
  · have := h4 (j - q) (by omega) (by omega)
    rw [show q + (j - q) = j by omega] at this
    omega
theorem ident_lf (s : ByteArray) : ∀ (n q : Nat), s.size - q ≤ n → ∀ j, q ≤ j → j < identE s q → byt s j ≠ 10 := by
  intro n
  induction n with
  | zero => intro q hn j h1 h2; rw [identE, dif_neg (by omega)] at h2; omega
  | succ n ih =>
    intro q hn j h1 h2
    by_cases h : q < s.size
    · by_cases hl : (letR (runeAt s q).1 || digR (runeAt s q).1) = true
      · have hr := runeAt_range s q h
        rw [identE, dif_pos h, if_pos hl] at h2
        rcases Nat.lt_or_ge j (q + (runeAt s q).2) with h3 | h3
        · exact letR_byt h hl j h1 h3
        · exact ih _ (by omega) j h3 h2
      · rw [identE, dif_pos h, if_neg hl] at h2; omega
    · rw [identE, dif_neg h] at h2; omega
theorem num_lf (s : ByteArray) (hex : Bool) : ∀ (n q : Nat), s.size - q ≤ n → ∀ j, q ≤ j → j < numE s hex q → byt s j ≠ 10 := by
  intro n
  induction n with
  | zero => intro q hn j h1 h2; rw [numE, if_neg (by omega)] at h2; omega
  | succ n ih =>
    intro q hn j h1 h2
    by_cases h : q < s.size
    · by_cases hl : inNum (byt s (q - 1)) (byt s q) hex = true
      · rw [numE, if_pos h, if_pos hl] at h2
        rcases Nat.lt_or_ge j (q + 1) with h3 | h3
        · obtain rfl : j = q := by omega
          intro h4
          rw [h4] at hl
          revert hl
          unfold inNum
          rw [if_neg (by decide), if_neg (by decide)]
          decide
        · exact ih _ (by omega) j h3 h2
      · rw [numE, if_pos h, if_neg hl] at h2; omega
    · rw [numE, if_neg h] at h2; omega
theorem closed_last (s : ByteArray) (last : List UInt8) (a : Nat) : ∀ (n q e : Nat), s.size - q ≤ n → closedR s last a q = .inr e → ∃ c, c ≤ s.size ∧ pre s c last = true ∧ e = c + last.length ∧ q ≤ c := by
  intro n
  induction n with
  | zero => intro q e hn h; rw [closedR, dif_neg (by omega)] at h; cases h
  | succ n ih =>
    intro q e hn h
    by_cases hq : q < s.size
    · have hr := runeAt_range s q hq
      rw [closedR, dif_pos hq] at h
      by_cases h0 : (runeAt s q).1 < 0
      · rw [if_pos h0] at h; cases h
      rw [if_neg h0] at h
      by_cases hp : pre s q last = true
      · rw [if_pos hp] at h; injection h with h
        exact ⟨q, by omega, hp, h.symm, Nat.le_refl _⟩
      · rw [if_neg hp] at h
        obtain ⟨c, h1, h2, h3, h4⟩ := ih _ e (by omega) h
        exact ⟨c, h1, h2, h3, by omega⟩
    · rw [closedR, dif_neg hq] at h; cases h
theorem quot_last (s : ByteArray) (qt a : Nat) (h0 : 0 < qt) (h1 : qt < 128) : ∀ (n q e : Nat) (bh : Bool), s.size - q ≤ n → quotR s qt a q bh = .inr e → q < e ∧ byt s (e - 1) = qt := by
  intro n
  induction n with
  | zero => intro q e bh hn h; rw [quotR, dif_neg (by omega)] at h; cases h
  | succ n ih =>
    intro q e bh hn h
    by_cases hq : q < s.size
    · have hr := runeAt_range s q hq
      rw [quotR, dif_pos hq] at h
      by_cases h10 : (runeAt s q).1 = 10
      · rw [if_pos h10] at h; cases h
      rw [if_neg h10] at h
      by_cases hn0 : (runeAt s q).1 < 0
      · rw [if_pos hn0] at h; cases h
      rw [if_neg hn0] at h
      by_cases hc : (runeAt s q).1 = (qt : Int) ∧ bh = false
      · rw [if_pos hc] at h
        by_cases h39 : qt = 39 ∧ q = a + 1
        · rw [if_pos h39] at h; cases h
        · rw [if_neg h39] at h
          injection h with h
          subst h
          exact ⟨by omega, (rune_byte hq qt h0 h1).1 hc.1⟩
      · rw [if_neg hc] at h
        have := ih _ e _ (by omega) h
        exact ⟨by omega, this.2⟩
    · rw [quotR, dif_neg hq] at h; cases h
/-- What ends with a line feed is one. -/
theorem end_lf {s : ByteArray} {q : Nat} (hq : q < s.size) (hok : (thing s q).ok = true) (h : byt s ((thing s q).en q - 1) = 10) : thing s q = .lf := by
  have he := (thing_ends hq).2 hok
  have hc := thing_eq s q
  by_cases c1 : (runeAt s q).1 = 10
  · rw [if_pos c1] at hc; exact hc
  rw [if_neg c1] at hc
  exfalso
  have hb : byt s q ≠ 10 := fun x => c1 ((rune_byte hq 10 (by omega) (by omega)).2 x)
  by_cases c2 : blkR (runeAt s q).1 = true
  · rw [if_pos c2] at hc; rw [hc] at h; exact hb h
  rw [if_neg c2] at hc
  by_cases c3 : pre s q [47, 47] = true
  · rw [if_pos c3] at hc
    cases hl : lineR s q with
    | inl f => rw [hl] at hc; rw [hc] at hok; cases hok
    | inr e =>
      rw [hl] at hc; rw [hc] at h he
      have h : byt s (e - 1) = 10 := h
      have he : q < e := he.1
      exact (line_end s _ q e (Nat.le_refl _) (by omega) hl).2 (e - 1) (by omega) (by omega) h
  rw [if_neg c3] at hc
  by_cases c4 : pre s q [47, 42] = true
  · rw [if_pos c4] at hc
    cases hl : closedR s [42, 47] q (q + 2) with
    | inl f => rw [hl] at hc; rw [hc] at hok; cases hok
    | inr e =>
      rw [hl] at hc; rw [hc] at h
      have h : byt s (e - 1) = 10 := h
      obtain ⟨c, h1, h2, h3, _⟩ := closed_last s _ _ _ _ e (Nat.le_refl _) hl
      have h4 := (pre2 s c _ _ h1).1 h2
      have h5 : e = c + 2 := h3
      rw [h5, show c + 2 - 1 = c + 1 by omega, h4.2.2] at h
      exact absurd h (by decide)
  rw [if_neg c4] at hc
  by_cases c5 : letR (runeAt s q).1 = true
  · rw [if_pos c5] at hc; rw [hc] at h he
    have h : byt s (identE s q - 1) = 10 := h
    have he : q < identE s q := he.1
    exact ident_lf s _ q (Nat.le_refl _) _ (by omega) (by omega) h
  rw [if_neg c5] at hc
  by_cases c6 : digTest s q (runeAt s q).1 = true
  · rw [if_pos c6] at hc; rw [hc] at h he
    have h : byt s (numE s (hexP s q) (q + 1) - 1) = 10 := h
    have he : q < numE s (hexP s q) (q + 1) := he.1
    by_cases h1 : numE s (hexP s q) (q + 1) = q + 1
    · rw [h1] at h; exact hb h
    · exact num_lf s (hexP s q) _ (q + 1) (Nat.le_refl _) (numE s (hexP s q) (q + 1) - 1) (by have h7 := (numE_ge s (hexP s q) _ (q + 1) (Nat.le_refl _)).1; omega) (by omega) h
  rw [if_neg c6] at hc
  by_cases c7 : (runeAt s q).1 = 39
  · rw [if_pos c7] at hc
    cases hl : quotR s 39 q (q + 1) false with
    | inl f => rw [hl] at hc; rw [hc] at hok; cases hok
    | inr e =>
      rw [hl] at hc; rw [hc] at h
      have h : byt s (e - 1) = 10 := h
      rw [(quot_last s 39 q (by decide) (by decide) _ _ e _ (Nat.le_refl _) hl).2] at h
      exact absurd h (by decide)
  rw [if_neg c7] at hc
  by_cases c8 : (runeAt s q).1 = 34
  · rw [if_pos c8] at hc
    cases hl : quotR s 34 q (q + 1) false with
    | inl f => rw [hl] at hc; rw [hc] at hok; cases hok
    | inr e =>
      rw [hl] at hc; rw [hc] at h
      have h : byt s (e - 1) = 10 := h
      rw [(quot_last s 34 q (by decide) (by decide) _ _ e _ (Nat.le_refl _) hl).2] at h
      exact absurd h (by decide)
  rw [if_neg c8] at hc
  by_cases c9 : (runeAt s q).1 = 96
  · rw [if_pos c9] at hc
    cases hl : closedR s [96] q (q + 1) with
    | inl f => rw [hl] at hc; rw [hc] at hok; cases hok
    | inr e =>
      rw [hl] at hc; rw [hc] at h
      have h : byt s (e - 1) = 10 := h
      obtain ⟨c, h1, h2, h3, _⟩ := closed_last s _ _ _ _ e (Nat.le_refl _) hl
      have h4 := (pre1 s c _ h1).1 h2
      have h5 : e = c + 1 := h3
      rw [h5, show c + 1 - 1 = c by omega, h4.2] at h
      exact absurd h (by decide)
  rw [if_neg c9] at hc
  by_cases c10 : (runeAt s q).1 = 59
  · rw [if_pos c10] at hc; rw [hc] at h; exact hb h
  rw [if_neg c10] at hc
  by_cases c11 : signN s q = 0
  · rw [if_pos c11] at hc; rw [hc] at hok; cases hok
  · rw [if_neg c11] at hc; rw [hc] at h
    have h : byt s (q + signN s q - 1) = 10 := h
    have hs : sgB s q (signN s q) := by
      rcases signN_eq s q with ⟨a, e⟩ | ⟨_, a, e⟩ | ⟨_, _, a, e⟩ | ⟨_, _, _, e⟩
      · rw [e]; exact a
      · rw [e]; exact a
      · rw [e]; exact a
      · exact absurd e c11
    have := sg_byte hs (i := signN s q - 1) (by omega)
    rw [show q + (signN s q - 1) = q + signN s q - 1 by omega, h] at this
    omega
end Go.Proofs.YtejogobhnbjpdaaDoor
