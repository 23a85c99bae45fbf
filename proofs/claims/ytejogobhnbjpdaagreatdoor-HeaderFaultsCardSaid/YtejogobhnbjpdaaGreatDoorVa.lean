/- Where a header's places lie. -/
import Derived.Test.YtejogobhnbjpdaaGreatDoorU2
import Derived.Test.YtejogobhnbjpdaaGreatDoorHc
namespace Go.Proofs.YtejogobhnbjpdaaGreatDoor
set_option linter.unusedVariables false
set_option linter.unusedSimpArgs false
open Go.ChangeShapes Go.WideShapes Go.ChangeAt Go.RowKit

/-- A token that isn't made of nothing. -/
def Writ (t : Tk) : Prop := t.1 ≠ 0 → t.1 ≠ 6 → t.1 ≠ 7 → t.2.1.size ≠ 0
theorem snoc_w {l : List Tk} (h : ∀ t ∈ l, Writ t) {x : Tk} (hx : Writ x) : ∀ t ∈ l ++ [x], Writ t := fun u hu => by
  rcases List.mem_append.1 hu with h1 | h1
  · exact h u h1
  · rw [List.mem_singleton.1 h1]; exact hx
theorem feed_w {l : List Tk} (h : ∀ t ∈ l, Writ t) (q : Nat) : ∀ t ∈ feedL l q, Writ t := by
  unfold feedL
  cases hl : l.getLast? with
  | none => exact h
  | some t =>
    show ∀ u ∈ (if endsB t = true then l ++ [(6, (⟨#[]⟩ : ByteArray), q)] else l), Writ u
    split
    · exact snoc_w h (fun _ h6 _ => absurd rfl h6)
    · exact h
theorem lexT_w {s : ByteArray} : ∀ q l m, (∀ t ∈ l, Writ t) → ∀ t ∈ (lexT s q l m).1, Writ t := by
  refine lex_ind s _ ?_ ?_ ?_
  · intro q l m h hl
    rw [lexT_out h]
    exact snoc_w (feed_w hl _) (fun h0 _ _ => absurd rfl h0)
  · intro q l m f h ht hl
    rw [lexT_bad h ht]
    exact snoc_w hl (fun _ _ h7 => absurd rfl h7)
  · intro q l m h hok ih hl
    rw [lexT_step h hok]
    have hen := (thing_ends h).2 hok
    refine ih ?_
    cases ht : thing s q with
    | bad f => rw [ht] at hok; cases hok
    | lf => exact feed_w hl _
    | blank => exact hl
    | note e =>
      show ∀ u ∈ (if hasLF s q e = true then feedL l q else l), Writ u
      split
      · exact feed_w hl _
      · exact hl
    | tok k e =>
      rw [ht] at hen
      have h1 : q < e := hen.1
      have h2 : e ≤ s.size := hen.2.1
      refine snoc_w hl (fun _ _ _ => ?_)
      show (s.extract q e).size ≠ 0
      rw [ByteArray.size_extract]; omega
theorem lexL_w (s : ByteArray) : ∀ t ∈ lexL s, Writ t := lexT_w _ _ _ (fun _ h => by cases h)
/-- A written token behind the first one. -/
theorem tok_at {s : ByteArray} {i k p : Nat} {x : ByteArray} (h : (lexL s)[i]? = some (k, x, p)) (hx : x.size ≠ 0) (hi : 1 ≤ i) : 0 < p ∧ p < s.size := by
  have h1 := lexT_at s (skN s) [] [] i k p x (by simp) h hx
  obtain ⟨h2, h3, h4⟩ := lexT_tok s (skN s) [] [] i k p x (by simp) h hx
  have h5 := ((thing_ends h2).2 h3).1
  rcases h4 with ⟨h6, _⟩ | ⟨h6, _⟩
  · simp at h6; omega
  · omega
theorem specsR_all {T : List Tk} (Q : Im → Prop) (h : ∀ i m, 1 ≤ i → (specR T i).1 = some m → Q m) : ∀ (n i : Nat) (I : List Im), T.length - i ≤ n → 1 ≤ i → (∀ t ∈ I, Q t) → ∀ t ∈ (specsR T i I).2.2, Q t := by
  have snoc : ∀ {I : List Im} {m : Im}, (∀ t ∈ I, Q t) → Q m → ∀ t ∈ I ++ [m], Q t := fun h hm u hu => by
    rcases List.mem_append.1 hu with h1 | h1
    · exact h u h1
    · rw [List.mem_singleton.1 h1]; exact hm
  intro n
  induction n using Nat.strongRecOn with
  | _ n ih =>
    intro i I hn h1i hI
    by_cases hi : i < T.length
    case neg => rw [specsR_out _ hi]; exact hI
    by_cases hc : tIs 5 ⟨#[41]⟩ (tk T i) = true
    · rw [specsR_close _ hi hc]; exact hI
    rw [Bool.not_eq_true] at hc
    cases hs : (specR T i).1 with
    | none => rw [specsR_none _ hi hc hs]; exact hI
    | some m =>
      have hp := specR_pos hs
      have hI2 := snoc hI (h i m h1i hs)
      rw [specsR_some _ hi hc hs]
      split
      · exact ih (T.length - ((specR T i).2 + 1)) (by omega) _ _ (Nat.le_refl _) (by omega) hI2
      · split
        · exact ih (T.length - (specR T i).2) (by omega) _ _ (Nat.le_refl _) (by omega) hI2
        · exact hI2
theorem specs1_all {T : List Tk} (Q : Im → Prop) (h : ∀ i m, 1 ≤ i → (specR T i).1 = some m → Q m) (i : Nat) (I : List Im) (hi : 1 ≤ i) (hI : ∀ t ∈ I, Q t) : ∀ t ∈ (specs1 T i I).2.2, Q t := by
  unfold specs1
  split
  · exact specsR_all Q h _ _ _ (Nat.le_refl _) (by omega) hI
  · cases hs : (specR T i).1 with
    | none => simpa using hI
    | some m =>
      intro u hu
      have hu : u ∈ I ++ [m] := hu
      rcases List.mem_append.1 hu with h1 | h1
      · exact hI u h1
      · rw [List.mem_singleton.1 h1]; exact h i m hi hs
theorem declR_all {T : List Tk} (Q : Im → Prop) (h : ∀ i m, 1 ≤ i → (specR T i).1 = some m → Q m) : ∀ (n i : Nat) (I : List Im), T.length - i ≤ n → 1 ≤ i → (∀ t ∈ I, Q t) → ∀ t ∈ (declR T i I).2.2, Q t := by
  intro n
  induction n using Nat.strongRecOn with
  | _ n ih =>
    intro i I hn h1i hI
    by_cases hi : i < T.length
    case neg => rw [declR_out _ hi]; exact hI
    by_cases hc : tIs 1 wImport (tk T i) = true
    case neg =>
      rw [Bool.not_eq_true] at hc
      rw [declR_end _ hi hc]; exact hI
    have h2 := specs1_all Q h (i + 1) I (by omega) hI
    by_cases hg : i < (specs1 T (i + 1) I).2.1
    case neg => rw [declR_back _ hi hc hg]; exact hI
    by_cases h1 : (specs1 T (i + 1) I).1 = true
    case neg =>
      rw [Bool.not_eq_true] at h1
      rw [declR_bad _ hi hc hg h1]; exact h2
    rw [declR_on _ hi hc hg h1]
    split
    · exact ih (T.length - ((specs1 T (i + 1) I).2.1 + 1)) (by omega) _ _ (Nat.le_refl _) (by omega) h2
    · exact h2
theorem beginR_all {T : List Tk} (Q : Im → Prop) (h : ∀ i m, 1 ≤ i → (specR T i).1 = some m → Q m) : ∀ t ∈ (beginR T).2.2, Q t := by
  have hd := declR_all Q h _ 3 [] (Nat.le_refl _) (by decide) (fun t ht => by cases ht)
  unfold beginR
  split
  · intro t ht; cases ht
  · split <;> exact hd
theorem size_ne {x : ByteArray} (h : x ≠ ⟨#[]⟩) : x.size ≠ 0 := fun h0 => h (ba_ext (by
  have : x.data.toList.length = 0 := by rw [← Lib.size_eq]; exact h0
  rw [List.eq_nil_of_length_eq_zero this]))
/-- What the statement asks of an import. -/
def ImOk (s : ByteArray) (m : Im) : Prop := m.2.1 ≠ ⟨#[]⟩ ∧ 0 < m.2.2 ∧ m.2.2 < s.size
theorem imp_ok (s : ByteArray) : ∀ t ∈ (beginR (lexL s)).2.2, ImOk s t := by
  refine beginR_all _ (fun i m hi hs => ?_)
  unfold specR at hs
  split at hs
  case isFalse => cases hs
  rename_i hc
  injection hs with hs
  subst hs
  have hp := hc.2
  unfold pathOk at hp
  rw [Bool.and_eq_true] at hp
  refine ⟨of_decide_eq_true hp.1, ?_⟩
  have hit : i < (lexL s).length := by
    apply Classical.byContradiction
    intro hn
    have hge : i ≤ nx (named (tk (lexL s) i)) i := by unfold nx; split <;> omega
    rw [tk_out (show ¬ nx (named (tk (lexL s) i)) i < (lexL s).length by omega)] at hc
    exact absurd hc.1 (by decide)
  have hm := List.mem_of_getElem? (tk_some hit)
  have hw : (tk (lexL s) i).2.1.size ≠ 0 := by
    by_cases hn : named (tk (lexL s) i) = true
    · unfold named at hn
      rcases Bool.or_eq_true_iff.1 hn with h | h
      · unfold tIs at h
        simp at h
        rw [h.2]; decide
      · unfold tName at h
        simp at h
        exact lexL_w s _ hm (by omega) (by omega) (by omega)
    · have e : nx (named (tk (lexL s) i)) i = i := by unfold nx; rw [if_neg hn]
      rw [e] at hc
      exact lexL_w s _ hm (by omega) (by omega) (by omega)
  exact tok_at (i := i) (k := (tk (lexL s) i).1) (x := (tk (lexL s) i).2.1) (p := (tk (lexL s) i).2.2) (tk_some hit) hw hi
theorem name_ok {s : ByteArray} (hs : s.size ≤ 1048576) (h : (beginR (lexL s)).1 = 0) : (tk (lexL s) 1).2.1 ≠ ⟨#[]⟩ := by
  have P := pre_of s hs
  have hb := beginR_ok P.e
  have h3 := hb.2 h
  have hc : (clauseR (lexL s)).1 = true := by
    rw [← Bool.not_eq_false]
    intro hc
    unfold beginR at h
    rw [if_pos hc] at h
    revert h
    show (if _ then 1 else 2) = 0 → False
    split <;> exact fun e => absurd e (by decide)
  have hn : tName (tk (lexL s) 1) = true := by
    unfold clauseR at hc
    split at hc
    · cases hc
    · split at hc
      · cases hc
      · split at hc
        · cases hc
        · rename_i h2
          simpa using h2
  unfold tName at hn
  simp at hn
  have hm := List.mem_of_getElem? (tk_some (T := lexL s) (i := 1) (by omega))
  intro he
  exact lexL_w s _ hm (by omega) (by omega) (by omega) (by rw [he]; rfl)
end Go.Proofs.YtejogobhnbjpdaaGreatDoor
