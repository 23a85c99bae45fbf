/- Plain: what a parser hands back is a tree's parts; they can be reckoned. -/
import Derived.Test.YtpibehfmbmincaaGreatDoorWi
namespace Go.Proofs.YtpibehfmbmincaaGreatDoor
set_option linter.unusedVariables false

inductive Ex | tag (x : ByteArray) | no (e : Ex) | conj (a b : Ex) | disj (a b : Ex)
def code : Ex → List ByteArray
  | .tag x => [x]
  | .no e => code e ++ [notB]
  | .conj a b => code a ++ code b ++ [andB]
  | .disj a b => code a ++ code b ++ [orB]
def val (on : List ByteArray) : Ex → Bool
  | .tag x => inB on x
  | .no e => !(val on e)
  | .conj a b => val on a && val on b
  | .disj a b => val on a || val on b
def wf (N : Nat) : Ex → Prop
  | .tag x => tagB x = true ∧ x.size ≤ N
  | .no e => wf N e
  | .conj a b => wf N a ∧ wf N b
  | .disj a b => wf N a ∧ wf N b
theorem tag_ne {x : ByteArray} (h : tagB x = true) : x ≠ notB ∧ x ≠ andB ∧ x ≠ orB := by
  refine ⟨?_, ?_, ?_⟩ <;> rintro rfl <;> revert h <;> decide +kernel
theorem evalS_code (on : List ByteArray) (N : Nat) : ∀ (e : Ex), wf N e → ∀ (st : List Bool) (r : List ByteArray), evalS on st (code e ++ r) = evalS on (val on e :: st) r := by
  intro e
  induction e with
  | tag x =>
    intro h st r
    obtain ⟨h1, h2, h3⟩ := tag_ne h.1
    show (match stepE on st x with | none => none | some u => evalS on u r) = _
    unfold stepE
    rw [if_neg h1, if_neg h2, if_neg h3, h.1]
    rfl
  | no e ih =>
    intro h st r
    show evalS on st ((code e ++ [notB]) ++ r) = _
    rw [List.append_assoc, ih h]
    show (match stepE on (val on e :: st) notB with | none => none | some u => evalS on u r) = _
    rfl
  | conj a b iha ihb =>
    intro h st r
    show evalS on st ((code a ++ code b ++ [andB]) ++ r) = _
    rw [List.append_assoc, List.append_assoc, iha h.1, ihb h.2]
    show (match stepE on (val on b :: val on a :: st) andB with | none => none | some u => evalS on u r) = _
    rfl
  | disj a b iha ihb =>
    intro h st r
    show evalS on st ((code a ++ code b ++ [orB]) ++ r) = _
    rw [List.append_assoc, List.append_assoc, iha h.1, ihb h.2]
    show (match stepE on (val on b :: val on a :: st) orB with | none => none | some u => evalS on u r) = _
    rfl
theorem evalR_code (on : List ByteArray) (N : Nat) (e : Ex) (h : wf N e) : evalR on (code e) = (val on e, 0) := by
  have := evalS_code on N e h [] []
  rw [List.append_nil] at this
  unfold evalR
  rw [this]
  rfl
theorem code_size (N : Nat) (hN : 2 ≤ N) : ∀ (e : Ex), wf N e → ∀ x ∈ code e, x.size ≤ N := by
  intro e
  induction e with
  | tag x => intro h y hy; simp [code] at hy; subst hy; exact h.2
  | no e ih =>
    intro h y hy
    rcases List.mem_append.1 hy with hy | hy
    · exact ih h y hy
    · simp at hy; subst hy; show 1 ≤ N; omega
  | conj a b iha ihb =>
    intro h y hy
    rcases List.mem_append.1 hy with hy | hy
    · rcases List.mem_append.1 hy with hy | hy
      · exact iha h.1 y hy
      · exact ihb h.2 y hy
    · simp at hy; subst hy; exact hN
  | disj a b iha ihb =>
    intro h y hy
    rcases List.mem_append.1 hy with hy | hy
    · rcases List.mem_append.1 hy with hy | hy
      · exact iha h.1 y hy
      · exact ihb h.2 y hy
    · simp at hy; subst hy; exact hN
theorem val_congr (on on' : List ByteArray) : ∀ (e : Ex), (∀ x ∈ code e, inB on x = inB on' x) → val on e = val on' e := by
  intro e
  induction e with
  | tag x => intro h; exact h x (by simp [code])
  | no e ih => intro h; show (!_) = (!_); rw [ih (fun x hx => h x (List.mem_append_left _ hx))]
  | conj a b iha ihb => intro h; show (_ && _) = (_ && _); rw [iha (fun x hx => h x (List.mem_append_left _ (List.mem_append_left _ hx))), ihb (fun x hx => h x (List.mem_append_left _ (List.mem_append_right _ hx)))]
  | disj a b iha ihb => intro h; show (_ || _) = (_ || _); rw [iha (fun x hx => h x (List.mem_append_left _ (List.mem_append_left _ hx))), ihb (fun x hx => h x (List.mem_append_left _ (List.mem_append_right _ hx)))]

/-- What each of the parser's steps hands back. -/
def Tail : Lv → Bool | .orsT => true | .andsT => true | _ => false
def Made (N : Nat) (L : Lv) (s t : St) : Prop :=
  if Tail L then ∀ P a, wf N a → s.parts = P ++ code a → ∃ e, wf N e ∧ t.parts = P ++ code e
  else ∃ e, wf N e ∧ t.parts = s.parts ++ code e
theorem lvl_made (N : Nat) : ∀ (n : Nat) (L : Lv) (s t : St), lvl n L s = .ok t → s.rest.length ≤ N → Made N L s t ∧ t.rest.length ≤ N := by
  intro n
  induction n with
  | zero => intro L s t h; cases h
  | succ n ih =>
    intro L s t h hN
    cases L with
    | ors =>
      simp only [lvl] at h
      cases ha : lvl n .ands s with
      | err e => rw [ha] at h; cases h
      | ok u =>
        rw [ha] at h
        obtain ⟨⟨e, he, hp⟩, hu⟩ := ih .ands s u ha hN
        obtain ⟨ht, htN⟩ := ih .orsT u t h hu
        exact ⟨ht _ e he hp, htN⟩
    | ands =>
      simp only [lvl] at h
      cases ha : lvl n .nots s with
      | err e => rw [ha] at h; cases h
      | ok u =>
        rw [ha] at h
        obtain ⟨⟨e, he, hp⟩, hu⟩ := ih .nots s u ha hN
        obtain ⟨ht, htN⟩ := ih .andsT u t h hu
        exact ⟨ht _ e he hp, htN⟩
    | orsT =>
      simp only [lvl] at h
      cases hs : isS [124, 124] s.rest with
      | mk b r =>
        have hr := isS_len hs
        rw [hs] at h
        cases b with
        | false => cases h; exact ⟨fun P a ha hp => ⟨a, ha, hp⟩, Nat.le_trans hr hN⟩
        | true =>
          simp only at h
          cases ha : lvl n .ands { s with rest := r } with
          | err e => rw [ha] at h; cases h
          | ok u =>
            rw [ha] at h
            obtain ⟨⟨e, he, hp⟩, hu⟩ := ih .ands { s with rest := r } u ha (Nat.le_trans hr hN)
            obtain ⟨ht, htN⟩ := ih .orsT _ t h hu
            refine ⟨fun P a hwa hpa => ht P (.disj a e) ⟨hwa, he⟩ ?_, htN⟩
            simp only at hp ⊢
            rw [hp, hpa]
            simp [code]
    | andsT =>
      simp only [lvl] at h
      cases hs : isS [38, 38] s.rest with
      | mk b r =>
        have hr := isS_len hs
        rw [hs] at h
        cases b with
        | false => cases h; exact ⟨fun P a ha hp => ⟨a, ha, hp⟩, Nat.le_trans hr hN⟩
        | true =>
          simp only at h
          cases ha : lvl n .nots { s with rest := r } with
          | err e => rw [ha] at h; cases h
          | ok u =>
            rw [ha] at h
            obtain ⟨⟨e, he, hp⟩, hu⟩ := ih .nots { s with rest := r } u ha (Nat.le_trans hr hN)
            obtain ⟨ht, htN⟩ := ih .andsT _ t h hu
            refine ⟨fun P a hwa hpa => ht P (.conj a e) ⟨hwa, he⟩ ?_, htN⟩
            simp only at hp ⊢
            rw [hp, hpa]
            simp [code]
    | nots =>
      simp only [lvl] at h
      cases hs : isS [33] s.rest with
      | mk b r =>
        have hr := isS_len hs
        rw [hs] at h
        cases b with
        | false => exact ih .part { s with rest := r } t h (Nat.le_trans hr hN)
        | true =>
          simp only at h
          cases ha : lvl n .part { s with rest := r } with
          | err e => rw [ha] at h; cases h
          | ok u =>
            rw [ha] at h
            cases h
            obtain ⟨⟨e, he, hp⟩, hu⟩ := ih .part { s with rest := r } u ha (Nat.le_trans hr hN)
            refine ⟨⟨.no e, he, ?_⟩, hu⟩
            simp only at hp ⊢
            rw [hp]
            simp [code]
    | part =>
      simp only [lvl] at h
      cases hs : isS [40] s.rest with
      | mk b r =>
        have hr := isS_len hs
        rw [hs] at h
        cases b with
        | true => exact ih .inner { s with rest := r } t h (Nat.le_trans hr hN)
        | false =>
          simp only at h
          split at h
          · cases h
          · rename_i hne
            cases h
            have h2 := endN_le r
            unfold endN at h2
            refine ⟨⟨.tag (mkB (r.takeWhile tagC)), ⟨?_, by rw [mkB_size]; omega⟩, rfl⟩, by simp only [List.length_drop]; omega⟩
            unfold tagB
            rw [mkB_toList, all_tw]
            cases hl : r.takeWhile tagC with
            | nil => exact absurd hl hne
            | cons a q => rfl
    | inner =>
      simp only [lvl] at h
      split at h
      · cases h
      · cases ha : lvl n .ors { s with deep := s.deep + 1 } with
        | err e => rw [ha] at h; cases h
        | ok u =>
          rw [ha] at h
          simp only at h
          obtain ⟨⟨e, he, hp⟩, hu⟩ := ih .ors { s with deep := s.deep + 1 } u ha hN
          cases hs : isS [41] u.rest with
          | mk b r =>
            have hr := isS_len hs
            rw [hs] at h
            cases b with
            | true => cases h; exact ⟨⟨e, he, hp⟩, Nat.le_trans hr hu⟩
            | false => cases h
theorem parse_code (s : ByteArray) (l : List ByteArray) (h : parseR s = (l, 0)) : ∃ e, wf 1024 e ∧ l = code e := by
  unfold parseR at h
  split at h
  · cases h
  · rename_i hle
    cases ho : ors0 s with
    | err c =>
      rw [ho] at h
      simp only at h
      have hc := (Prod.mk.inj h).2
      unfold ors0 at ho
      have hnf := (lvl_small (8 * s.size + 5) .ors ⟨s.data.toList, [], 0⟩ (by simp only [rank, ba_len]; omega)).1
      cases c
      · cases hc
      · cases hc
      · exact absurd ho hnf
    | ok t =>
      rw [ho] at h
      simp only at h
      split at h
      · have hl := (Prod.mk.inj h).1
        unfold ors0 at ho
        obtain ⟨⟨e, he, hp⟩, _⟩ := lvl_made 1024 _ _ _ _ ho (by simp only [ba_len]; omega)
        exact ⟨e, he, by rw [← hl, hp]; rfl⟩
      · cases h
theorem parse_err (s : ByteArray) : (parseR s).2 = 0 ∨ (parseR s).1 = [] := by
  unfold parseR
  split
  · exact .inr rfl
  · split
    · exact .inr rfl
    · split
      · exact .inl rfl
      · exact .inr rfl
end Go.Proofs.YtpibehfmbmincaaGreatDoor
