/- The theory of tokens: a text gone through; what stays when the text goes on otherwise. -/
import Derived.Test.YtejogobhnbjpdaaDoorGw
namespace Go.Proofs.YtejogobhnbjpdaaDoor
set_option linter.unusedVariables false
set_option linter.unusedSimpArgs false

def lNext (s : ByteArray) (q : Nat) (l : List Tk) : Th → List Tk
  | .bad f => l ++ [(7, ⟨#[]⟩, f)] | .lf => feedL l q | .blank => l | .note e => if hasLF s q e = true then feedL l q else l | .tok k e => l ++ [(k, s.extract q e, q)]
def mNext (s : ByteArray) (q : Nat) (m : List Tk) : Th → List Tk | .note e => m ++ [(0, s.extract q e, q)] | _ => m
def lexT (s : ByteArray) (q : Nat) (l m : List Tk) : List Tk × List Tk := lexF s (s.size - q) q l m
theorem lexF_fuel (s : ByteArray) : ∀ (n n' q : Nat) (l m : List Tk), s.size - q ≤ n → s.size - q ≤ n' → lexF s n q l m = lexF s n' q l m := by
  intro n
  induction n with
  | zero =>
    intro n' q l m h h'
    cases n' with
    | zero => rfl
    | succ n' => rw [lexF, lexF, if_neg (by omega)]
  | succ n ih =>
    intro n' q l m h h'
    cases n' with
    | zero => rw [lexF, lexF, if_neg (by omega)]
    | succ n' =>
      rw [lexF, lexF]
      by_cases hq : q < s.size
      · rw [if_pos hq, if_pos hq]
        have he := (thing_ends hq).2
        cases ht : thing s q with
        | bad f => rfl
        | lf => exact ih _ _ _ _ (by omega) (by omega)
        | blank => exact ih _ _ _ _ (by omega) (by omega)
        | note e => rw [ht] at he; have := (he rfl).1; exact ih _ _ _ _ (by have h : q < e := this; omega) (by have h : q < e := this; omega)
        | tok k e => rw [ht] at he; have := (he rfl).1; exact ih _ _ _ _ (by have h : q < e := this; omega) (by have h : q < e := this; omega)
      · rw [if_neg hq, if_neg hq]
theorem lexT_out {s : ByteArray} {q : Nat} (h : ¬ q < s.size) (l m : List Tk) : lexT s q l m = (feedL l s.size ++ [(0, ⟨#[]⟩, s.size)], m) := by
  unfold lexT
  rw [show s.size - q = 0 by omega]; rfl
theorem lexT_bad {s : ByteArray} {q f : Nat} (h : q < s.size) (ht : thing s q = .bad f) (l m : List Tk) : lexT s q l m = (l ++ [(7, ⟨#[]⟩, f)], m) := by
  unfold lexT
  rw [show s.size - q = s.size - q - 1 + 1 by omega, lexF, if_pos h, ht]
theorem lexT_step {s : ByteArray} {q : Nat} (h : q < s.size) (hok : (thing s q).ok = true) (l m : List Tk) : lexT s q l m = lexT s ((thing s q).en q) (lNext s q l (thing s q)) (mNext s q m (thing s q)) := by
  have he := ((thing_ends h).2 hok).1
  unfold lexT
  rw [show s.size - q = s.size - q - 1 + 1 by omega, lexF, if_pos h]
  cases ht : thing s q with
  | bad f => rw [ht] at hok; cases hok
  | lf => exact lexF_fuel s _ _ _ _ _ (by omega) (by show s.size - (q + 1) ≤ s.size - (q + 1); omega)
  | blank => exact lexF_fuel s _ _ _ _ _ (by omega) (by show s.size - (q + 1) ≤ s.size - (q + 1); omega)
  | note e => rw [ht] at he; have he : q < e := he; exact lexF_fuel s _ _ _ _ _ (by omega) (by show s.size - e ≤ s.size - e; omega)
  | tok k e => rw [ht] at he; have he : q < e := he; exact lexF_fuel s _ _ _ _ _ (by omega) (by show s.size - e ≤ s.size - e; omega)
theorem th_cases (s : ByteArray) (q : Nat) : (∃ f, thing s q = .bad f) ∨ (thing s q).ok = true := by
  cases ht : thing s q with
  | bad f => exact .inl ⟨f, rfl⟩
  | _ => exact .inr rfl
/-- Going through a text, by what stands there. -/
theorem lex_ind (s : ByteArray) (P : Nat → List Tk → List Tk → Prop) (h0 : ∀ q l m, ¬ q < s.size → P q l m) (h1 : ∀ q l m f, q < s.size → thing s q = .bad f → P q l m)
    (h2 : ∀ q l m, q < s.size → (thing s q).ok = true → P ((thing s q).en q) (lNext s q l (thing s q)) (mNext s q m (thing s q)) → P q l m) : ∀ q l m, P q l m := by
  have : ∀ (n q : Nat) (l m : List Tk), s.size - q ≤ n → P q l m := by
    intro n
    induction n with
    | zero => intro q l m hn; exact h0 q l m (by omega)
    | succ n ih =>
      intro q l m hn
      by_cases hq : q < s.size
      · rcases th_cases s q with ⟨f, hf⟩ | hok
        · exact h1 q l m f hq hf
        · have := ((thing_ends hq).2 hok).1
          exact h2 q l m hq hok (ih _ _ _ (by omega))
      · exact h0 q l m hq
  exact fun q l m => this _ q l m (Nat.le_refl _)
theorem feedL_app (l : List Tk) (q : Nat) : ∃ x, feedL l q = l ++ x ∧ ∀ t ∈ x, t.2.1 = ⟨#[]⟩ ∧ t.1 = 6 := by
  unfold feedL
  cases l.getLast? with
  | none => exact ⟨[], by simp, by simp⟩
  | some t =>
    show ∃ x, (if endsB t = true then l ++ [(6, ⟨#[]⟩, q)] else l) = _ ∧ _
    split
    · exact ⟨_, rfl, by simp⟩
    · exact ⟨[], by simp, by simp⟩
theorem feedL_len (l : List Tk) (q : Nat) : l.length ≤ (feedL l q).length ∧ (feedL l q).length ≤ l.length + 1 := by
  unfold feedL
  cases l.getLast? with
  | none => simp
  | some t =>
    show _ ≤ (if endsB t = true then l ++ [(6, (⟨#[]⟩ : ByteArray), q)] else l).length ∧ (if endsB t = true then l ++ [(6, (⟨#[]⟩ : ByteArray), q)] else l).length ≤ _
    split <;> simp
theorem lNext_app (s : ByteArray) (q : Nat) (l : List Tk) (T : Th) (hT : T.isTok = false) : ∃ x, lNext s q l T = l ++ x ∧ ∀ t ∈ x, t.2.1 = ⟨#[]⟩ := by
  have hf := feedL_app l q
  obtain ⟨x, h1, h2⟩ := hf
  cases T with
  | bad f => exact ⟨_, rfl, by simp⟩
  | lf => exact ⟨x, h1, fun t ht => (h2 t ht).1⟩
  | blank => exact ⟨[], by simp [lNext], by simp⟩
  | note e =>
    show ∃ x, (if hasLF s q e = true then feedL l q else l) = _ ∧ _
    split
    · exact ⟨x, h1, fun t ht => (h2 t ht).1⟩
    · exact ⟨[], by simp, by simp⟩
  | tok k e => cases hT
theorem lNext_len (s : ByteArray) (q : Nat) (l : List Tk) (T : Th) : l.length ≤ (lNext s q l T).length ∧ (lNext s q l T).length ≤ l.length + 1 := by
  cases T with
  | bad f => simp [lNext]
  | lf => exact feedL_len l q
  | blank => exact ⟨Nat.le_refl _, Nat.le_succ _⟩
  | note e =>
    show _ ≤ (if hasLF s q e = true then feedL l q else l).length ∧ (if hasLF s q e = true then feedL l q else l).length ≤ _
    split
    · exact feedL_len l q
    · exact ⟨Nat.le_refl _, Nat.le_succ _⟩
  | tok k e => simp [lNext]
theorem lNext_pre (s : ByteArray) (q : Nat) (l : List Tk) (T : Th) : ∃ x, lNext s q l T = l ++ x := by
  cases hT : T.isTok with
  | false => obtain ⟨x, h, _⟩ := lNext_app s q l T hT; exact ⟨x, h⟩
  | true => cases T with
    | tok k e => exact ⟨_, rfl⟩
    | _ => cases hT
/-- What was met stays. -/
theorem lexT_pre (s : ByteArray) : ∀ q l m, ∃ x, (lexT s q l m).1 = l ++ x := by
  refine lex_ind s _ ?_ ?_ ?_
  · intro q l m h
    rw [lexT_out h]
    obtain ⟨x, hx, _⟩ := feedL_app l s.size
    exact ⟨x ++ [(0, ⟨#[]⟩, s.size)], by show feedL l s.size ++ _ = _; rw [hx, List.append_assoc]⟩
  · intro q l m f h ht
    rw [lexT_bad h ht]
    exact ⟨_, rfl⟩
  · intro q l m h hok ih
    rw [lexT_step h hok]
    obtain ⟨x, hx⟩ := ih
    obtain ⟨y, hy⟩ := lNext_pre s q l (thing s q)
    exact ⟨y ++ x, by rw [hx, hy, List.append_assoc]⟩
/-- A token that is written, of those that come, is what stands here, or stands behind. -/
theorem lexT_tok (s : ByteArray) : ∀ q l m, ∀ (i k p : Nat) (x : ByteArray), l.length ≤ i → (lexT s q l m).1[i]? = some (k, x, p) → x.size ≠ 0 → q < s.size ∧ (thing s q).ok = true ∧
    ((i = l.length ∧ p = q ∧ thing s q = .tok k (q + x.size) ∧ x = s.extract q (q + x.size)) ∨ ((thing s q).en q ≤ p ∧ (lNext s q l (thing s q)).length ≤ i)) := by
  refine lex_ind s _ ?_ ?_ ?_
  · intro q l m h i k p x hi hl hx
    exfalso
    rw [lexT_out h] at hl
    obtain ⟨y, hy, hy2⟩ := feedL_app l s.size
    have hl : (feedL l s.size ++ [(0, (⟨#[]⟩ : ByteArray), s.size)])[i]? = _ := hl
    rw [hy, List.append_assoc, List.getElem?_append_right hi] at hl
    have := List.mem_of_getElem? hl
    rcases List.mem_append.1 this with h1 | h1
    · have := (hy2 _ h1).1
      have h2 : x = ⟨#[]⟩ := this
      subst h2; exact hx rfl
    · have h2 := List.mem_singleton.1 h1
      injection h2 with _ h3
      injection h3 with h3 _
      subst h3; exact hx rfl
  · intro q l m f h ht i k p x hi hl hx
    exfalso
    rw [lexT_bad h ht] at hl
    have hl : (l ++ [(7, (⟨#[]⟩ : ByteArray), f)])[i]? = _ := hl
    rw [List.getElem?_append_right hi] at hl
    have h2 := List.mem_singleton.1 (List.mem_of_getElem? hl)
    injection h2 with _ h3
    injection h3 with h3 _
    subst h3; exact hx rfl
  · intro q l m h hok ih i k p x hi hl hx
    refine ⟨h, hok, ?_⟩
    rw [lexT_step h hok] at hl
    obtain ⟨he1, he2, he3⟩ := (thing_ends h).2 hok
    rcases Nat.lt_or_ge i (lNext s q l (thing s q)).length with hlt | hge
    · left
      obtain ⟨z, hz⟩ := lexT_pre s ((thing s q).en q) (lNext s q l (thing s q)) (mNext s q m (thing s q))
      rw [hz, List.getElem?_append_left hlt] at hl
      cases hT : (thing s q).isTok with
      | false =>
        exfalso
        obtain ⟨y, hy, hy2⟩ := lNext_app s q l (thing s q) hT
        rw [hy, List.getElem?_append_right hi] at hl
        have h2 : x = ⟨#[]⟩ := hy2 _ (List.mem_of_getElem? hl)
        subst h2; exact hx rfl
      | true =>
        cases ht : thing s q with
        | tok k2 e =>
          rw [ht] at hl hlt he1 he2
          have he1 : q < e := he1
          have he2 : e ≤ s.size := he2
          have hl : (l ++ [(k2, s.extract q e, q)])[i]? = _ := hl
          have hlt : i < (l ++ [(k2, s.extract q e, q)]).length := hlt
          rw [List.length_append, List.length_singleton] at hlt
          obtain rfl : i = l.length := by omega
          rw [List.getElem?_append_right (Nat.le_refl _), Nat.sub_self] at hl
          simp only [List.getElem?_cons_zero, Option.some.injEq, Prod.mk.injEq] at hl
          obtain ⟨h1, h2, h3⟩ := hl
          have h4 : x.size = e - q := by rw [← h2, ByteArray.size_extract]; omega
          have h5 : e = q + x.size := by omega
          refine ⟨rfl, h3.symm, by rw [← h5, h1], by rw [← h5]; exact h2.symm⟩
        | bad f => rw [ht] at hT; cases hT
        | lf => rw [ht] at hT; cases hT
        | blank => rw [ht] at hT; cases hT
        | note e => rw [ht] at hT; cases hT
    · right
      refine ⟨?_, hge⟩
      obtain ⟨h1, h2, h3⟩ := ih i k p x hge hl hx
      rcases h3 with ⟨_, h4, _⟩ | ⟨h4, _⟩
      · omega
      · have := ((thing_ends h1).2 h2).1
        omega
theorem three_dots {s : ByteArray} {q : Nat} (h : q + 2 < s.size) (h0 : byt s q = 46) (h1 : byt s (q + 1) = 46) (h2 : byt s (q + 2) = 46) : signN s q = 3 := by
  have hs : sgB s q 3 := by
    refine ⟨by omega, ?_⟩
    rw [show (s.extract q (q + 3)).data.toList = [46, 46, 46] from ?_]
    · decide +kernel
    · apply List.ext_getElem?
      intro i
      rw [ext_get s q 3 i (by omega)]
      unfold byt at h0 h1 h2
      by_cases hi : i < 3
      · rw [if_pos hi]
        rcases (by omega : i = 0 ∨ i = 1 ∨ i = 2) with rfl | rfl | rfl
        · rw [Nat.add_zero, UInt8.toNat_inj.1 (h0.trans (show 46 = (46 : UInt8).toNat from rfl))]; rfl
        · rw [UInt8.toNat_inj.1 (h1.trans (show 46 = (46 : UInt8).toNat from rfl))]; rfl
        · rw [UInt8.toNat_inj.1 (h2.trans (show 46 = (46 : UInt8).toNat from rfl))]; rfl
      · rw [if_neg hi, List.getElem?_eq_none (by simp; omega)]
  rcases signN_eq s q with h | h | h | h
  · exact h.2
  all_goals exact absurd hs h.1
theorem dot_cases {s : ByteArray} {q : Nat} (hq : q < s.size) (hb : byt s q = 46) : thing s q = .tok 2 (numE s (hexP s q) (q + 1)) ∨ (signN s q ≠ 0 ∧ thing s q = .tok 5 (q + signN s q)) := by
  have hr : (runeAt s q).1 = 46 := (rune_byte hq 46 (by omega) (by omega)).2 hb
  rw [thing_eq, hr, if_neg (by decide), if_neg (by decide), if_neg (fun h => by have := (pre2 s q _ _ (by omega)).1 h; rw [hb] at this; exact absurd this.2.1 (by decide)), if_neg (fun h => by have := (pre2 s q _ _ (by omega)).1 h; rw [hb] at this; exact absurd this.2.1 (by decide)), if_neg (by decide)]
  by_cases hd : digTest s q 46 = true
  · rw [if_pos hd]; exact .inl rfl
  · rw [if_neg hd, if_neg (by decide), if_neg (by decide), if_neg (by decide), if_neg (by decide)]
    have h1 : sgB s q 1 := by
      refine ⟨by omega, ?_⟩
      rw [show (s.extract q (q + 1)).data.toList = [46] from ?_]
      · decide +kernel
      · apply List.ext_getElem?
        intro i
        rw [ext_get s q 1 i (by omega)]
        by_cases hi : i < 1
        · obtain rfl : i = 0 := by omega
          rw [if_pos hi, Nat.add_zero]
          unfold byt at hb
          rw [UInt8.toNat_inj.1 (hb.trans (show 46 = (46 : UInt8).toNat from rfl))]; rfl
        · rw [if_neg hi, List.getElem?_eq_none (by simp; omega)]
    have hn : signN s q ≠ 0 := by
      rcases signN_eq s q with h | h | h | h
      · omega
      · omega
      · omega
      · exact absurd h1 h.2.2.1
    rw [if_neg hn]
    exact .inr ⟨hn, rfl⟩
end Go.Proofs.YtejogobhnbjpdaaDoor
