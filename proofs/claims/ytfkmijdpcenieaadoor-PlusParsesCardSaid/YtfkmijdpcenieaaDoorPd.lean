/- Plain: constraints with more behind, within brackets, joined. -/
import Derived.Test.YtfkmijdpcenieaaDoorPc
namespace Go.Proofs.YtfkmijdpcenieaaDoor
set_option linter.unusedVariables false

theorem takeP_true {sg : ByteArray} {X r Z : List ByteArray} (h : takeP sg X = (true, r)) : X = sg :: r ∧ takeP sg (X ++ Z) = (true, r ++ Z) := by
  cases X with
  | nil => cases h
  | cons x q =>
    by_cases e : x = sg
    · rw [takeP_eq e] at h; cases h; subst e; exact ⟨rfl, takeP_eq rfl⟩
    · rw [takeP_ne e] at h; cases h
theorem takeP_false {sg : ByteArray} {X r : List ByteArray} (h : takeP sg X = (false, r)) : r = X := by
  cases X with
  | nil => cases h; rfl
  | cons x q =>
    by_cases e : x = sg
    · rw [takeP_eq e] at h; cases h
    · rw [takeP_ne e] at h; cases h; rfl
theorem takeP_app {sg : ByteArray} {X r Z : List ByteArray} (h : takeP sg X = (false, r)) (hz : X = [] → takeP sg Z = (false, Z)) : takeP sg (X ++ Z) = (false, X ++ Z) := by
  cases X with
  | nil => exact hz rfl
  | cons x q =>
    by_cases e : x = sg
    · rw [takeP_eq e] at h; cases h
    · exact takeP_ne e

/-- One more unit of fuel changes nothing that was answered. -/
theorem lvlP_step : ∀ (n : Nat) (L : Lv) (p : StP), lvlP n L p ≠ .err .fuel → lvlP (n + 1) L p = lvlP n L p := by
  intro n
  induction n with
  | zero => intro L p h; exact absurd rfl h
  | succ n ih =>
    intro L p h
    cases L with
    | ors =>
      simp only [lvlP] at h
      rw [lvlP]; conv => rhs; rw [lvlP]
      cases ha : lvlP n .ands p with
      | err e => rw [ha] at h; rw [ih .ands p (by rw [ha]; exact h), ha]
      | ok u => rw [ha] at h; rw [ih .ands p (by rw [ha]; intro h; cases h), ha]; exact ih .orsT u h
    | ands =>
      simp only [lvlP] at h
      rw [lvlP]; conv => rhs; rw [lvlP]
      cases ha : lvlP n .nots p with
      | err e => rw [ha] at h; rw [ih .nots p (by rw [ha]; exact h), ha]
      | ok u => rw [ha] at h; rw [ih .nots p (by rw [ha]; intro h; cases h), ha]; exact ih .andsT u h
    | orsT =>
      simp only [lvlP] at h
      rw [lvlP]; conv => rhs; rw [lvlP]
      cases hs : takeP orB p.left with
      | mk b r =>
        rw [hs] at h
        cases b with
        | false => rfl
        | true =>
          simp only at h ⊢
          cases ha : lvlP n .ands { p with left := r } with
          | err e => rw [ha] at h; rw [ih .ands _ (by rw [ha]; exact h), ha]
          | ok u => rw [ha] at h; rw [ih .ands _ (by rw [ha]; intro h; cases h), ha]; exact ih .orsT _ h
    | andsT =>
      simp only [lvlP] at h
      rw [lvlP]; conv => rhs; rw [lvlP]
      cases hs : takeP andB p.left with
      | mk b r =>
        rw [hs] at h
        cases b with
        | false => rfl
        | true =>
          simp only at h ⊢
          cases ha : lvlP n .nots { p with left := r } with
          | err e => rw [ha] at h; rw [ih .nots _ (by rw [ha]; exact h), ha]
          | ok u => rw [ha] at h; rw [ih .nots _ (by rw [ha]; intro h; cases h), ha]; exact ih .andsT _ h
    | nots =>
      simp only [lvlP] at h
      rw [lvlP]; conv => rhs; rw [lvlP]
      cases hs : takeP notB p.left with
      | mk b r =>
        rw [hs] at h
        cases b with
        | false => simp only at h ⊢; exact ih .part _ h
        | true =>
          simp only at h ⊢
          cases ha : lvlP n .part { p with left := r } with
          | err e => rw [ha] at h; rw [ih .part _ (by rw [ha]; exact h), ha]
          | ok u => rw [ih .part _ (by rw [ha]; intro h; cases h), ha]
    | part =>
      simp only [lvlP] at h
      rw [lvlP]; conv => rhs; rw [lvlP]
      cases hs : takeP openB p.left with
      | mk b r =>
        rw [hs] at h
        cases b with
        | false => rfl
        | true => simp only at h ⊢; exact ih .inner _ h
    | inner =>
      simp only [lvlP] at h
      rw [lvlP]; conv => rhs; rw [lvlP]
      by_cases hd : 64 < p.deep + 1
      · rw [if_pos hd, if_pos hd]
      · rw [if_neg hd] at h
        rw [if_neg hd, if_neg hd]
        cases ha : lvlP n .ors { p with deep := p.deep + 1 } with
        | err e => rw [ha] at h; rw [ih .ors _ (by rw [ha]; exact h), ha]
        | ok u => rw [ih .ors _ (by rw [ha]; intro h; cases h), ha]
theorem lvlP_mono {n m : Nat} {L : Lv} {p : StP} (h : lvlP n L p ≠ .err .fuel) (hm : n ≤ m) : lvlP m L p = lvlP n L p := by
  induction hm with
  | refl => rfl
  | step hm ih => rw [lvlP_step _ _ _ (by rw [ih]; exact h), ih]
theorem lvlP_det {n m : Nat} {L : Lv} {p : StP} (h1 : lvlP n L p ≠ .err .fuel) (h2 : lvlP m L p ≠ .err .fuel) : lvlP n L p = lvlP m L p := by
  rcases Nat.le_total n m with h | h
  · exact (lvlP_mono h1 h).symm
  · exact lvlP_mono h2 h

/-- With more behind, and more parts ahead. -/
theorem sim (Q Z : List ByteArray) (hZ : takeP orB Z = (false, Z) ∧ takeP andB Z = (false, Z)) : ∀ (n : Nat) (L : Lv) (X P : List ByteArray) (d : Nat),
    (∀ t, lvlP n L ⟨X, P, d⟩ = .ok t → lvlP n L ⟨X ++ Z, Q ++ P, d⟩ = .ok ⟨t.left ++ Z, Q ++ t.parts, t.deep⟩) ∧ (lvlP n L ⟨X, P, d⟩ = .err .deep → lvlP n L ⟨X ++ Z, Q ++ P, d⟩ = .err .deep) := by
  intro n
  induction n with
  | zero => intro L X P d; exact ⟨fun t h => (by cases h), fun h => (by cases h)⟩
  | succ n ih =>
    intro L X P d
    cases L with
    | ors =>
      simp only [lvlP]
      obtain ⟨i1, i2⟩ := ih .ands X P d
      cases ha : lvlP n .ands ⟨X, P, d⟩ with
      | err e => exact ⟨fun t h => (by cases h), fun h => by cases h; rw [i2 ha]⟩
      | ok u => rw [i1 u ha]; exact ih .orsT u.left u.parts u.deep
    | ands =>
      simp only [lvlP]
      obtain ⟨i1, i2⟩ := ih .nots X P d
      cases ha : lvlP n .nots ⟨X, P, d⟩ with
      | err e => exact ⟨fun t h => (by cases h), fun h => by cases h; rw [i2 ha]⟩
      | ok u => rw [i1 u ha]; exact ih .andsT u.left u.parts u.deep
    | orsT =>
      simp only [lvlP]
      cases hs : takeP orB X with
      | mk b r =>
        cases b with
        | false =>
          rw [takeP_app hs (fun _ => hZ.1)]
          have hr := takeP_false hs
          subst hr
          exact ⟨fun t h => by cases h; rfl, fun h => (by cases h)⟩
        | true =>
          rw [(takeP_true (Z := Z) hs).2]
          simp only
          obtain ⟨i1, i2⟩ := ih .ands r P d
          cases ha : lvlP n .ands ⟨r, P, d⟩ with
          | err e => exact ⟨fun t h => (by cases h), fun h => by cases h; rw [i2 ha]⟩
          | ok u =>
            rw [i1 u ha]
            simp only [List.append_assoc]
            exact ih .orsT u.left (u.parts ++ [orB]) u.deep
    | andsT =>
      simp only [lvlP]
      cases hs : takeP andB X with
      | mk b r =>
        cases b with
        | false =>
          rw [takeP_app hs (fun _ => hZ.2)]
          have hr := takeP_false hs
          subst hr
          exact ⟨fun t h => by cases h; rfl, fun h => (by cases h)⟩
        | true =>
          rw [(takeP_true (Z := Z) hs).2]
          simp only
          obtain ⟨i1, i2⟩ := ih .nots r P d
          cases ha : lvlP n .nots ⟨r, P, d⟩ with
          | err e => exact ⟨fun t h => (by cases h), fun h => by cases h; rw [i2 ha]⟩
          | ok u =>
            rw [i1 u ha]
            simp only [List.append_assoc]
            exact ih .andsT u.left (u.parts ++ [andB]) u.deep
    | nots =>
      by_cases hX : X = []
      · subst hX
        refine ⟨fun t h => ?_, fun h => ?_⟩
        · simp only [lvlP, takeP] at h
          cases n with
          | zero => cases h
          | succ n => simp only [lvlP, takeP] at h; cases h
        · simp only [lvlP, takeP] at h
          cases n with
          | zero => cases h
          | succ n => simp only [lvlP, takeP] at h; cases h
      · simp only [lvlP]
        cases hs : takeP notB X with
        | mk b r =>
          cases b with
          | false =>
            rw [takeP_app hs (fun h => absurd h hX)]
            have hr := takeP_false hs
            subst hr
            exact ih .part _ P d
          | true =>
            rw [(takeP_true (Z := Z) hs).2]
            simp only
            obtain ⟨i1, i2⟩ := ih .part r P d
            cases ha : lvlP n .part ⟨r, P, d⟩ with
            | err e => exact ⟨fun t h => (by cases h), fun h => by cases h; rw [i2 ha]⟩
            | ok u =>
              rw [i1 u ha]
              exact ⟨fun t h => by cases h; simp, fun h => (by cases h)⟩
    | part =>
      by_cases hX : X = []
      · subst hX
        refine ⟨fun t h => ?_, fun h => ?_⟩
        · simp only [lvlP, takeP] at h; cases h
        · simp only [lvlP, takeP] at h; cases h
      · simp only [lvlP]
        cases hs : takeP openB X with
        | mk b r =>
          cases b with
          | false =>
            rw [takeP_app hs (fun h => absurd h hX)]
            have hr := takeP_false hs
            subst hr
            cases r with
            | nil => exact absurd rfl hX
            | cons x q =>
              simp only [List.cons_append]
              cases ht : tagB x with
              | true => simp only [if_true]; exact ⟨fun t h => by cases h; simp, fun h => (by cases h)⟩
              | false => simp only [Bool.false_eq_true, if_false]; exact ⟨fun t h => (by cases h), fun h => (by cases h)⟩
          | true =>
            rw [(takeP_true (Z := Z) hs).2]
            exact ih .inner r P d
    | inner =>
      simp only [lvlP]
      by_cases hd : 64 < d + 1
      · rw [if_pos hd, if_pos hd]; exact ⟨fun t h => (by cases h), fun h => rfl⟩
      · rw [if_neg hd, if_neg hd]
        obtain ⟨i1, i2⟩ := ih .ors X P (d + 1)
        cases ha : lvlP n .ors ⟨X, P, d + 1⟩ with
        | err e => exact ⟨fun t h => (by cases h), fun h => by cases h; rw [i2 ha]⟩
        | ok u =>
          rw [i1 u ha]
          simp only
          cases hs : takeP shutB u.left with
          | mk b r =>
            cases b with
            | false => exact ⟨fun t h => (by cases h), fun h => (by cases h)⟩
            | true =>
              rw [(takeP_true (Z := Z) hs).2]
              exact ⟨fun t h => by cases h; rfl, fun h => (by cases h)⟩

theorem eat_app {X C Y D : List ByteArray} (h1 : X = C ++ Y) (hc : noneB ∉ C) {Z : List ByteArray} (h2 : Y = D ++ Z) (hd : noneB ∉ D) : ∃ C, X = C ++ Z ∧ noneB ∉ C :=
  ⟨C ++ D, by rw [h1, h2, List.append_assoc], by rw [List.mem_append, not_or]; exact ⟨hc, hd⟩⟩
theorem sign_none : noneB ≠ orB ∧ noneB ≠ andB ∧ noneB ≠ notB ∧ noneB ≠ openB ∧ noneB ≠ shutB := by decide +kernel
theorem eat_one {sg : ByteArray} {X r : List ByteArray} (h : takeP sg X = (true, r)) (hs : noneB ≠ sg) : X = [sg] ++ r ∧ noneB ∉ [sg] := ⟨(takeP_true (Z := []) h).1, by simp; exact hs⟩
theorem lvlP_eats : ∀ (n : Nat) (L : Lv) (p t : StP), lvlP n L p = .ok t → t.deep = p.deep ∧ ∃ C, p.left = C ++ t.left ∧ noneB ∉ C := by
  intro n
  induction n with
  | zero => intro L p t h; cases h
  | succ n ih =>
    intro L p t h
    cases L with
    | ors =>
      simp only [lvlP] at h
      cases ha : lvlP n .ands p with
      | err e => rw [ha] at h; cases h
      | ok u =>
        rw [ha] at h
        obtain ⟨a1, C, a2, a3⟩ := ih _ _ _ ha
        obtain ⟨b1, D, b2, b3⟩ := ih _ _ _ h
        exact ⟨b1.trans a1, eat_app a2 a3 b2 b3⟩
    | ands =>
      simp only [lvlP] at h
      cases ha : lvlP n .nots p with
      | err e => rw [ha] at h; cases h
      | ok u =>
        rw [ha] at h
        obtain ⟨a1, C, a2, a3⟩ := ih _ _ _ ha
        obtain ⟨b1, D, b2, b3⟩ := ih _ _ _ h
        exact ⟨b1.trans a1, eat_app a2 a3 b2 b3⟩
    | orsT =>
      simp only [lvlP] at h
      cases hs : takeP orB p.left with
      | mk b r =>
        rw [hs] at h
        cases b with
        | false => cases h; exact ⟨rfl, [], (takeP_false hs).symm, by simp⟩
        | true =>
          simp only at h
          obtain ⟨c1, c2⟩ := eat_one hs sign_none.1
          cases ha : lvlP n .ands { p with left := r } with
          | err e => rw [ha] at h; cases h
          | ok u =>
            rw [ha] at h
            obtain ⟨a1, C, a2, a3⟩ := ih .ands { p with left := r } u ha
            obtain ⟨b1, D, b2, b3⟩ := ih .orsT _ _ h
            obtain ⟨E, e1, e2⟩ := eat_app a2 a3 b2 b3
            exact ⟨b1.trans a1, eat_app c1 c2 e1 e2⟩
    | andsT =>
      simp only [lvlP] at h
      cases hs : takeP andB p.left with
      | mk b r =>
        rw [hs] at h
        cases b with
        | false => cases h; exact ⟨rfl, [], (takeP_false hs).symm, by simp⟩
        | true =>
          simp only at h
          obtain ⟨c1, c2⟩ := eat_one hs sign_none.2.1
          cases ha : lvlP n .nots { p with left := r } with
          | err e => rw [ha] at h; cases h
          | ok u =>
            rw [ha] at h
            obtain ⟨a1, C, a2, a3⟩ := ih .nots { p with left := r } u ha
            obtain ⟨b1, D, b2, b3⟩ := ih .andsT _ _ h
            obtain ⟨E, e1, e2⟩ := eat_app a2 a3 b2 b3
            exact ⟨b1.trans a1, eat_app c1 c2 e1 e2⟩
    | nots =>
      simp only [lvlP] at h
      cases hs : takeP notB p.left with
      | mk b r =>
        rw [hs] at h
        cases b with
        | false =>
          have hr := takeP_false hs
          obtain ⟨a1, C, a2, a3⟩ := ih .part { p with left := r } t h
          exact ⟨a1, C, by rw [← hr]; exact a2, a3⟩
        | true =>
          simp only at h
          obtain ⟨c1, c2⟩ := eat_one hs sign_none.2.2.1
          cases ha : lvlP n .part { p with left := r } with
          | err e => rw [ha] at h; cases h
          | ok u =>
            rw [ha] at h
            cases h
            obtain ⟨a1, C, a2, a3⟩ := ih .part { p with left := r } u ha
            exact ⟨a1, eat_app c1 c2 a2 a3⟩
    | part =>
      simp only [lvlP] at h
      cases hs : takeP openB p.left with
      | mk b r =>
        rw [hs] at h
        cases b with
        | true =>
          obtain ⟨c1, c2⟩ := eat_one hs sign_none.2.2.2.1
          obtain ⟨a1, C, a2, a3⟩ := ih .inner { p with left := r } t h
          exact ⟨a1, eat_app c1 c2 a2 a3⟩
        | false =>
          have hr := takeP_false hs
          simp only at h
          cases r with
          | nil => cases h
          | cons x q =>
            simp only at h
            split at h
            · rename_i ht
              cases h
              refine ⟨rfl, [x], by rw [← hr]; rfl, ?_⟩
              simp only [List.mem_singleton]
              rintro rfl
              exact absurd ht (by decide)
            · cases h
    | inner =>
      simp only [lvlP] at h
      split at h
      · cases h
      · cases ha : lvlP n .ors { p with deep := p.deep + 1 } with
        | err e => rw [ha] at h; cases h
        | ok u =>
          rw [ha] at h
          simp only at h
          obtain ⟨a1, C, a2, a3⟩ := ih .ors { p with deep := p.deep + 1 } u ha
          cases hs : takeP shutB u.left with
          | mk b r =>
            rw [hs] at h
            cases b with
            | false => cases h
            | true =>
              cases h
              obtain ⟨c1, c2⟩ := eat_one hs sign_none.2.2.2.2
              simp only at a1 a2
              exact ⟨by simp only; omega, eat_app a2 a3 c1 c2⟩

/-- One bracket deeper. -/
theorem deeper : ∀ (n : Nat) (L : Lv) (X P : List ByteArray) (d : Nat) (t : StP), lvlP n L ⟨X, P, d⟩ = .ok t → lvlP n L ⟨X, P, d + 1⟩ = .ok ⟨t.left, t.parts, t.deep + 1⟩ ∨ lvlP n L ⟨X, P, d + 1⟩ = .err .deep := by
  intro n
  induction n with
  | zero => intro L X P d t h; cases h
  | succ n ih =>
    intro L X P d t h
    cases L with
    | ors =>
      simp only [lvlP] at h ⊢
      cases ha : lvlP n .ands ⟨X, P, d⟩ with
      | err e => rw [ha] at h; cases h
      | ok u =>
        rw [ha] at h
        rcases ih .ands X P d u ha with h1 | h1
        · rw [h1]; exact ih .orsT u.left u.parts u.deep t h
        · rw [h1]; exact .inr rfl
    | ands =>
      simp only [lvlP] at h ⊢
      cases ha : lvlP n .nots ⟨X, P, d⟩ with
      | err e => rw [ha] at h; cases h
      | ok u =>
        rw [ha] at h
        rcases ih .nots X P d u ha with h1 | h1
        · rw [h1]; exact ih .andsT u.left u.parts u.deep t h
        · rw [h1]; exact .inr rfl
    | orsT =>
      simp only [lvlP] at h ⊢
      cases hs : takeP orB X with
      | mk b r =>
        rw [hs] at h
        cases b with
        | false => cases h; exact .inl rfl
        | true =>
          simp only at h ⊢
          cases ha : lvlP n .ands ⟨r, P, d⟩ with
          | err e => rw [ha] at h; cases h
          | ok u =>
            rw [ha] at h
            rcases ih .ands r P d u ha with h1 | h1
            · rw [h1]; exact ih .orsT u.left (u.parts ++ [orB]) u.deep t h
            · rw [h1]; exact .inr rfl
    | andsT =>
      simp only [lvlP] at h ⊢
      cases hs : takeP andB X with
      | mk b r =>
        rw [hs] at h
        cases b with
        | false => cases h; exact .inl rfl
        | true =>
          simp only at h ⊢
          cases ha : lvlP n .nots ⟨r, P, d⟩ with
          | err e => rw [ha] at h; cases h
          | ok u =>
            rw [ha] at h
            rcases ih .nots r P d u ha with h1 | h1
            · rw [h1]; exact ih .andsT u.left (u.parts ++ [andB]) u.deep t h
            · rw [h1]; exact .inr rfl
    | nots =>
      simp only [lvlP] at h ⊢
      cases hs : takeP notB X with
      | mk b r =>
        rw [hs] at h
        cases b with
        | false => exact ih .part r P d t h
        | true =>
          simp only at h ⊢
          cases ha : lvlP n .part ⟨r, P, d⟩ with
          | err e => rw [ha] at h; cases h
          | ok u =>
            rw [ha] at h
            cases h
            rcases ih .part r P d u ha with h1 | h1
            · rw [h1]; exact .inl rfl
            · rw [h1]; exact .inr rfl
    | part =>
      simp only [lvlP] at h ⊢
      cases hs : takeP openB X with
      | mk b r =>
        rw [hs] at h
        cases b with
        | true => exact ih .inner r P d t h
        | false =>
          simp only at h ⊢
          cases r with
          | nil => cases h
          | cons x q =>
            simp only at h ⊢
            split at h
            · rename_i ht; cases h; rw [if_pos ht]; exact .inl rfl
            · cases h
    | inner =>
      simp only [lvlP] at h ⊢
      by_cases hd : 64 < d + 1
      · rw [if_pos hd] at h; cases h
      · rw [if_neg hd] at h
        by_cases hd2 : 64 < d + 1 + 1
        · rw [if_pos hd2]; exact .inr rfl
        · rw [if_neg hd2]
          cases ha : lvlP n .ors ⟨X, P, d + 1⟩ with
          | err e => rw [ha] at h; cases h
          | ok u =>
            rw [ha] at h
            rcases ih .ors X P (d + 1) u ha with h1 | h1
            · rw [h1]
              simp only at h ⊢
              cases hs : takeP shutB u.left with
              | mk b r =>
                rw [hs] at h
                cases b with
                | false => cases h
                | true =>
                  cases h
                  left
                  have hu := (lvlP_eats _ _ _ _ ha).1
                  simp only at hu
                  simp only [RsP.ok.injEq, StP.mk.injEq, true_and]
                  omega
            · rw [h1]; exact .inr rfl
/-! ### From texts to pieces -/
theorem trim_idem (l : List UInt8) : trimL (trimL l) = trimL l := by
  unfold trimL
  induction l with
  | nil => rfl
  | cons a r ih =>
    rw [List.dropWhile_cons]
    split
    · exact ih
    · rename_i h; rw [List.dropWhile_cons, if_neg h]
theorem tail_trim : ∀ (n : Nat) (s t : St), lvl n .orsT s = .ok t → trimL t.rest = t.rest := by
  intro n
  induction n with
  | zero => intro s t h; cases h
  | succ n ih =>
    intro s t h
    simp only [lvl] at h
    cases hs : isS [124, 124] s.rest with
    | mk b r =>
      rw [hs] at h
      cases b with
      | false => cases h; show trimL r = r; rw [isS_head hs, trim_idem]
      | true =>
        simp only at h
        cases ha : lvl n .ands { s with rest := r } with
        | err e => rw [ha] at h; cases h
        | ok u => rw [ha] at h; exact ih _ _ h
theorem ors_trim {n : Nat} {s t : St} (h : lvl n .ors s = .ok t) : trimL t.rest = t.rest := by
  cases n with
  | zero => cases h
  | succ n =>
    simp only [lvl] at h
    cases ha : lvl n .ands s with
    | err e => rw [ha] at h; cases h
    | ok u => rw [ha] at h; exact tail_trim _ _ _ h
theorem pieces_none {l : List UInt8} (ht : trimL l = l) (h : pieces l = []) : l = [] := by
  cases l with
  | nil => rfl
  | cons c r =>
    have hb := trim_head ht
    rw [pieces_cons, if_neg (by rw [hb]; decide)] at h
    split at h
    · cases h
    · split at h
      · cases h
      · cases r with
        | nil => cases h
        | cons d q => simp only at h; split at h <;> cases h
theorem bridge (s : ByteArray) : RelR (ors0 s) (lvlP (8 * s.size + 5) .ors ⟨pieces s.data.toList, [], 0⟩) := lvl_same _ _ _ _ ⟨rfl, rfl, rfl⟩ (by simp)
theorem ors0_nf (s : ByteArray) : ors0 s ≠ .err .fuel := (lvl_small (8 * s.size + 5) .ors ⟨s.data.toList, [], 0⟩ (by simp only [rank, ba_len]; omega)).1
theorem to_pieces {s : ByteArray} {l : List ByteArray} (h : parseR s = (l, 0)) : lvlP (8 * s.size + 5) .ors ⟨pieces s.data.toList, [], 0⟩ = .ok ⟨[], l, 0⟩ := by
  have hb := bridge s
  unfold parseR at h
  split at h
  · cases h
  · have hnf := ors0_nf s
    cases ho : ors0 s with
    | err c =>
      rw [ho] at h hnf
      have hc := (Prod.mk.inj h).2
      cases c
      · cases hc
      · cases hc
      · exact absurd rfl hnf
    | ok t =>
      rw [ho] at h hb
      simp only at h
      split at h
      · rename_i hr
        have hl := (Prod.mk.inj h).1
        have hd := lvl_deep _ _ _ _ (show lvl (8 * s.size + 5) .ors ⟨s.data.toList, [], 0⟩ = .ok t from ho)
        cases hp : lvlP (8 * s.size + 5) .ors ⟨pieces s.data.toList, [], 0⟩ with
        | err e => rw [hp] at hb; exact hb.elim
        | ok q =>
          rw [hp] at hb
          obtain ⟨b1, b2, b3⟩ := hb
          obtain ⟨ql, qp, qd⟩ := q
          simp only at b1 b2 b3 hd
          rw [hr] at b1
          subst b1; subst b2; subst b3
          rw [hl, hd]
          rfl
      · cases h
theorem of_pieces {s : ByteArray} {l : List ByteArray} {n : Nat} (hs : s.size ≤ 1024) (h : lvlP n .ors ⟨pieces s.data.toList, [], 0⟩ = .ok ⟨[], l, 0⟩) : parseR s = (l, 0) := by
  have hb := bridge s
  have hnf := ors0_nf s
  unfold parseR
  rw [if_neg (by omega)]
  cases ho : ors0 s with
  | err c =>
    rw [ho] at hb hnf
    cases hp : lvlP (8 * s.size + 5) .ors ⟨pieces s.data.toList, [], 0⟩ with
    | ok q => rw [hp] at hb; exact hb.elim
    | err e =>
      rw [hp] at hb
      have hce : c = e := hb
      have := lvlP_det (n := n) (m := 8 * s.size + 5) (L := .ors) (p := ⟨pieces s.data.toList, [], 0⟩) (by rw [h]; intro h; cases h) (by rw [hp, ← hce]; intro h; cases h; exact hnf rfl)
      rw [h, hp] at this; cases this
  | ok t =>
    rw [ho] at hb
    cases hp : lvlP (8 * s.size + 5) .ors ⟨pieces s.data.toList, [], 0⟩ with
    | err e => rw [hp] at hb; exact hb.elim
    | ok q =>
      have := lvlP_det (n := n) (m := 8 * s.size + 5) (L := .ors) (p := ⟨pieces s.data.toList, [], 0⟩) (by rw [h]; intro h; cases h) (by rw [hp]; intro h; cases h)
      rw [h, hp] at this
      cases this
      rw [hp] at hb
      obtain ⟨b1, b2, b3⟩ := hb
      simp only at b1 b2
      have hr := pieces_none (ors_trim (show lvl (8 * s.size + 5) .ors ⟨s.data.toList, [], 0⟩ = .ok t from ho)) b1.symm
      simp only
      rw [if_pos hr, ← b2]
theorem deep_pieces {s : ByteArray} {n : Nat} (hs : s.size ≤ 1024) (h : lvlP n .ors ⟨pieces s.data.toList, [], 0⟩ = .err .deep) : parseR s = ([], 8) := by
  have hb := bridge s
  have hnf := ors0_nf s
  unfold parseR
  rw [if_neg (by omega)]
  cases ho : ors0 s with
  | ok t =>
    rw [ho] at hb
    cases hp : lvlP (8 * s.size + 5) .ors ⟨pieces s.data.toList, [], 0⟩ with
    | err e => rw [hp] at hb; exact hb.elim
    | ok q =>
      have := lvlP_det (n := n) (m := 8 * s.size + 5) (L := .ors) (p := ⟨pieces s.data.toList, [], 0⟩) (by rw [h]; intro h; cases h) (by rw [hp]; intro h; cases h)
      rw [h, hp] at this; cases this
  | err c =>
    rw [ho] at hb hnf
    cases hp : lvlP (8 * s.size + 5) .ors ⟨pieces s.data.toList, [], 0⟩ with
    | ok q => rw [hp] at hb; exact hb.elim
    | err e =>
      rw [hp] at hb
      have hce : c = e := hb
      have := lvlP_det (n := n) (m := 8 * s.size + 5) (L := .ors) (p := ⟨pieces s.data.toList, [], 0⟩) (by rw [h]; intro h; cases h) (by rw [hp, ← hce]; intro h; cases h; exact hnf rfl)
      rw [h, hp] at this
      cases this
      subst hce
      rfl

theorem tw_app {r z : List UInt8} {c : UInt8} (hc : tagC c = false) : (r ++ c :: z).takeWhile tagC = r.takeWhile tagC ∧ (r ++ c :: z).drop (r.takeWhile tagC).length = r.drop (r.takeWhile tagC).length ++ c :: z := by
  induction r with
  | nil => simp [hc]
  | cons a q ih =>
    rw [List.cons_append, List.takeWhile_cons, List.takeWhile_cons]
    cases h : tagC a with
    | true => simp only [if_true, List.length_cons, List.drop_succ_cons]; exact ⟨by rw [ih.1], ih.2⟩
    | false => simp
theorem pieces_app (z : List UInt8) (c : UInt8) (hc : c = 41 ∨ c = 32) : ∀ (k : Nat) (x : List UInt8), x.length ≤ k → noneB ∉ pieces x → pieces (x ++ c :: z) = pieces x ++ pieces (c :: z) := by
  have hct : tagC c = false := by rcases hc with rfl | rfl <;> decide
  intro k
  induction k with
  | zero =>
    intro x h _
    have : x = [] := List.eq_nil_of_length_eq_zero (by omega)
    subst this; rfl
  | succ k ih =>
    intro x h hn
    cases x with
    | nil => rfl
    | cons a r =>
      simp only [List.length_cons] at h
      rw [pieces_cons a r] at hn
      rw [List.cons_append, pieces_cons a (r ++ c :: z), pieces_cons a r]
      by_cases hb : blank a = true
      · rw [if_pos hb] at hn ⊢
        rw [if_pos hb]
        exact ih r (by omega) hn
      · rw [if_neg hb] at hn ⊢
        rw [if_neg hb]
        by_cases ht : tagC a = true
        · rw [if_pos ht] at hn ⊢
          rw [if_pos ht]
          have h2 := tw_app (r := r) (z := z) hct
          have h3 : List.takeWhile tagC (a :: (r ++ c :: z)) = List.takeWhile tagC (a :: r) := by rw [List.takeWhile_cons, List.takeWhile_cons, h2.1]
          rw [h3, h2.1, h2.2, ih _ (by rw [List.length_drop]; omega) (fun hm => hn (List.mem_cons_of_mem _ hm))]
          rfl
        · rw [if_neg ht] at hn ⊢
          rw [if_neg ht]
          by_cases hs : a = 33 ∨ a = 40 ∨ a = 41
          · rw [if_pos hs] at hn ⊢
            rw [if_pos hs, ih r (by omega) (fun hm => hn (List.mem_cons_of_mem _ hm))]
            rfl
          · rw [if_neg hs] at hn ⊢
            rw [if_neg hs]
            cases r with
            | nil => exact absurd (List.mem_singleton.2 rfl) hn
            | cons d q =>
              simp only [List.cons_append] at hn ⊢
              by_cases he : (a = 38 ∧ d = 38) ∨ (a = 124 ∧ d = 124)
              · rw [if_pos he] at hn ⊢
                rw [if_pos he, ih q (by simp only [List.length_cons] at h; omega) (fun hm => hn (List.mem_cons_of_mem _ hm))]
                rfl
              · rw [if_neg he] at hn
                exact absurd (List.mem_singleton.2 rfl) hn
end Go.Proofs.YtfkmijdpcenieaaDoor
