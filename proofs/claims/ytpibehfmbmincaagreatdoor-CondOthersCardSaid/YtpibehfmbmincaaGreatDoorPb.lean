/- Plain: constraints: both parsers answer the same. -/
import Derived.Test.YtpibehfmbmincaaGreatDoorPa
namespace Go.Proofs.YtpibehfmbmincaaGreatDoor
set_option linter.unusedVariables false

theorem mkB_eq {a b : List UInt8} : mkB a = mkB b ↔ a = b := ⟨mkB_inj, fun h => by rw [h]⟩
theorem takeP_ne {sg x : ByteArray} {r : List ByteArray} (h : x ≠ sg) : takeP sg (x :: r) = (false, x :: r) := by show (if x = sg then _ else _) = _; rw [if_neg h]
theorem takeP_eq {sg x : ByteArray} {r : List ByteArray} (h : x = sg) : takeP sg (x :: r) = (true, r) := by show (if x = sg then _ else _) = _; rw [if_pos h]
theorem none_ne (a : UInt8) (l : List UInt8) : noneB ≠ mkB (a :: l) := by
  intro e; have h := congrArg (fun x : ByteArray => x.data.toList) e; exact absurd h (by simp [noneB, mkB])
theorem all_tw (l : List UInt8) : (l.takeWhile tagC).all tagC = true := by
  induction l with
  | nil => rfl
  | cons a r ih =>
    rw [List.takeWhile_cons]
    split
    · rename_i h; rw [List.all_cons, h, ih]; rfl
    · rfl
theorem tw_head {c : UInt8} {r : List UInt8} (h : tagC c = true) : (c :: r).takeWhile tagC = c :: r.takeWhile tagC := by rw [List.takeWhile_cons, if_pos h]
theorem take_one (x : UInt8) (hx : x = 33 ∨ x = 40 ∨ x = 41) (l : List UInt8) : takeP (mkB [x]) (pieces l) = ((isS [x] l).1, pieces (isS [x] l).2) := by
  rw [← pieces_trim l]
  unfold isS
  have hb := @trim_head l
  cases ht : trimL l with
  | nil => simp [pieces, piecesF, takeP, List.isPrefixOf]
  | cons c r =>
    have hnb := hb ht
    have hp : [x].isPrefixOf (c :: r) = (x == c) := by simp [List.isPrefixOf]
    rw [hp]
    have hxt : tagC x = false := by rcases hx with rfl | rfl | rfl <;> decide
    by_cases hc : tagC c = true
    · have hne : x ≠ c := fun e => by rw [e, hc] at hxt; cases hxt
      rw [if_neg (by simpa using hne), pieces_cons, if_neg (by rw [hnb]; decide), if_pos hc, takeP_ne]
      rw [ne_eq, mkB_eq, tw_head hc]
      intro e; exact hne (List.cons.inj e).1.symm
    · by_cases h1 : c = 33 ∨ c = 40 ∨ c = 41
      · rw [pieces_cons, if_neg (by rw [hnb]; decide), if_neg hc, if_pos h1]
        by_cases e : x = c
        · rw [if_pos (by simpa using e), takeP_eq (by rw [e])]
          rfl
        · rw [if_neg (by simpa using e), takeP_ne (by rw [ne_eq, mkB_eq]; intro h; exact e (List.cons.inj h).1.symm)]
          rw [pieces_cons, if_neg (by rw [hnb]; decide), if_neg hc, if_pos h1]
      · have hne : x ≠ c := fun e => h1 (e ▸ hx)
        rw [if_neg (by simpa using hne)]
        have hp2 : ∃ y q, pieces (c :: r) = y :: q ∧ y ≠ mkB [x] := by
          rw [pieces_cons, if_neg (by rw [hnb]; decide), if_neg hc, if_neg h1]
          cases r with
          | nil => exact ⟨noneB, [], rfl, none_ne _ _⟩
          | cons d q =>
            simp only
            split
            · exact ⟨_, _, rfl, by rw [ne_eq, mkB_eq]; simp⟩
            · exact ⟨noneB, [], rfl, none_ne _ _⟩
        obtain ⟨y, q, e, hy⟩ := hp2
        rw [e, takeP_ne hy]
theorem take_two (x : UInt8) (hx : x = 38 ∨ x = 124) (l : List UInt8) : takeP (mkB [x, x]) (pieces l) = ((isS [x, x] l).1, pieces (isS [x, x] l).2) := by
  rw [← pieces_trim l]
  unfold isS
  have hb := @trim_head l
  cases ht : trimL l with
  | nil => simp [pieces, piecesF, takeP, List.isPrefixOf]
  | cons c r =>
    have hnb := hb ht
    have hxt : tagC x = false := by rcases hx with rfl | rfl <;> decide
    have hx1 : ¬ (x = 33 ∨ x = 40 ∨ x = 41) := by rcases hx with rfl | rfl <;> decide
    by_cases hc : tagC c = true
    · have hne : x ≠ c := fun e => by rw [e, hc] at hxt; cases hxt
      have hp : [x, x].isPrefixOf (c :: r) = false := by simp [List.isPrefixOf, hne]
      rw [hp, if_neg (by decide), pieces_cons, if_neg (by rw [hnb]; decide), if_pos hc, takeP_ne]
      rw [ne_eq, mkB_eq, tw_head hc]
      intro e; exact hne (List.cons.inj e).1.symm
    · by_cases h1 : c = 33 ∨ c = 40 ∨ c = 41
      · have hne : x ≠ c := fun e => hx1 (e ▸ h1)
        have hp : [x, x].isPrefixOf (c :: r) = false := by simp [List.isPrefixOf, hne]
        rw [hp, if_neg (by decide), pieces_cons, if_neg (by rw [hnb]; decide), if_neg hc, if_pos h1, takeP_ne (by rw [ne_eq, mkB_eq]; simp)]
      · cases r with
        | nil =>
          have hp : [x, x].isPrefixOf [c] = false := by simp [List.isPrefixOf]
          rw [hp, if_neg (by decide), pieces_cons, if_neg (by rw [hnb]; decide), if_neg hc, if_neg h1]
          exact takeP_ne (none_ne _ _)
        | cons d q =>
          by_cases he : c = x ∧ d = x
          · obtain ⟨rfl, rfl⟩ := he
            have hp : [d, d].isPrefixOf (d :: d :: q) = true := by simp [List.isPrefixOf]
            rw [hp, if_pos rfl, pieces_cons, if_neg (by rw [hnb]; decide), if_neg hc, if_neg h1]
            simp only
            rw [if_pos (by rcases hx with rfl | rfl <;> decide), takeP_eq rfl]
            rfl
          · have hp : [x, x].isPrefixOf (c :: d :: q) = false := by
              rw [Bool.eq_false_iff]
              intro h
              simp [List.isPrefixOf] at h
              exact he ⟨h.1.symm, h.2.symm⟩
            rw [hp, if_neg (by decide)]
            have hp2 : ∃ y p, pieces (c :: d :: q) = y :: p ∧ y ≠ mkB [x, x] := by
              rw [pieces_cons, if_neg (by rw [hnb]; decide), if_neg hc, if_neg h1]
              simp only
              split
              · refine ⟨_, _, rfl, ?_⟩
                rw [ne_eq, mkB_eq]
                intro e
                simp only [List.cons.injEq, and_true] at e
                exact he e
              · exact ⟨noneB, [], rfl, none_ne _ _⟩
            obtain ⟨y, p, e, hy⟩ := hp2
            rw [e, takeP_ne hy]

/-- What a tag is, at the beginning of what is left. -/
theorem part_same (l : List UInt8) (hnb : ∀ c r, l = c :: r → blank c = false) :
    ((l.takeWhile tagC) = [] ∧ (match pieces l with | [] => True | x :: _ => tagB x = false)) ∨
    ((l.takeWhile tagC) ≠ [] ∧ ∃ q, pieces l = mkB (l.takeWhile tagC) :: q ∧ tagB (mkB (l.takeWhile tagC)) = true ∧ q = pieces (l.drop (l.takeWhile tagC).length)) := by
  cases l with
  | nil => left; exact ⟨rfl, by simp [pieces, piecesF]⟩
  | cons c r =>
    have hb := hnb c r rfl
    by_cases hc : tagC c = true
    · right
      rw [tw_head hc]
      refine ⟨by simp, _, by rw [pieces_cons, if_neg (by rw [hb]; decide), if_pos hc, tw_head hc], ?_, by simp⟩
      unfold tagB
      rw [mkB_toList]
      simp only [List.isEmpty_cons, Bool.not_false, Bool.true_and, List.all_cons, hc]
      exact all_tw r
    · left
      refine ⟨by rw [List.takeWhile_cons, if_neg hc], ?_⟩
      rw [pieces_cons, if_neg (by rw [hb]; decide), if_neg hc]
      by_cases h1 : c = 33 ∨ c = 40 ∨ c = 41
      · rw [if_pos h1]
        show tagB (mkB [c]) = false
        unfold tagB; rw [mkB_toList]; simp [hc]
      · rw [if_neg h1]
        cases r with
        | nil => rfl
        | cons d q =>
          simp only
          split
          · rename_i h
            split at h
            · cases h
            · cases h
          · rename_i x _ h
            split at h
            · cases h
              unfold tagB; rw [mkB_toList]; simp [hc]
            · cases h; rfl

def RelS (s : St) (p : StP) : Prop := p.left = pieces s.rest ∧ p.parts = s.parts ∧ p.deep = s.deep
def RelR : Rs → RsP → Prop
  | .ok t, .ok q => RelS t q
  | .err e, .err f => e = f
  | _, _ => False
theorem isS_head {sg l r : List UInt8} (h : isS sg l = (false, r)) : r = trimL l := by
  unfold isS at h
  split at h
  · cases h
  · cases h; rfl
theorem lvl_deep : ∀ (n : Nat) (L : Lv) (s t : St), lvl n L s = .ok t → t.deep = s.deep := by
  intro n
  induction n with
  | zero => intro L s t h; cases h
  | succ n ih =>
    intro L s t h
    cases L with
    | ors =>
      simp only [lvl] at h
      cases ha : lvl n .ands s with
      | err e => rw [ha] at h; cases h
      | ok u => rw [ha] at h; rw [ih _ _ _ h, ih _ _ _ ha]
    | ands =>
      simp only [lvl] at h
      cases ha : lvl n .nots s with
      | err e => rw [ha] at h; cases h
      | ok u => rw [ha] at h; rw [ih _ _ _ h, ih _ _ _ ha]
    | orsT =>
      simp only [lvl] at h
      cases hs : isS [124, 124] s.rest with
      | mk b r =>
        rw [hs] at h
        cases b with
        | false => cases h; rfl
        | true =>
          simp only at h
          cases ha : lvl n .ands { s with rest := r } with
          | err e => rw [ha] at h; cases h
          | ok u => rw [ha] at h; have e := ih .ands { s with rest := r } u ha; rw [ih _ _ _ h]; exact e
    | andsT =>
      simp only [lvl] at h
      cases hs : isS [38, 38] s.rest with
      | mk b r =>
        rw [hs] at h
        cases b with
        | false => cases h; rfl
        | true =>
          simp only at h
          cases ha : lvl n .nots { s with rest := r } with
          | err e => rw [ha] at h; cases h
          | ok u => rw [ha] at h; have e := ih .nots { s with rest := r } u ha; rw [ih _ _ _ h]; exact e
    | nots =>
      simp only [lvl] at h
      cases hs : isS [33] s.rest with
      | mk b r =>
        rw [hs] at h
        cases b with
        | false => exact ih .part { s with rest := r } t h
        | true =>
          simp only at h
          cases ha : lvl n .part { s with rest := r } with
          | err e => rw [ha] at h; cases h
          | ok u => rw [ha] at h; cases h; exact ih .part { s with rest := r } u ha
    | part =>
      simp only [lvl] at h
      cases hs : isS [40] s.rest with
      | mk b r =>
        rw [hs] at h
        cases b with
        | true => exact ih .inner { s with rest := r } t h
        | false =>
          simp only at h
          split at h
          · cases h
          · cases h; rfl
    | inner =>
      simp only [lvl] at h
      split at h
      · cases h
      · cases ha : lvl n .ors { s with deep := s.deep + 1 } with
        | err e => rw [ha] at h; cases h
        | ok u =>
          rw [ha] at h
          simp only at h
          have := ih .ors { s with deep := s.deep + 1 } u ha
          simp only at this
          cases hs : isS [41] u.rest with
          | mk b r =>
            rw [hs] at h
            cases b with
            | true => cases h; simp only; omega
            | false => cases h
theorem lvl_same : ∀ (n : Nat) (L : Lv) (s : St) (p : StP), RelS s p → s.deep ≤ 64 → RelR (lvl n L s) (lvlP n L p) := by
  intro n
  induction n with
  | zero => intro L s p h _; exact rfl
  | succ n ih =>
    intro L s p h hd
    obtain ⟨sl, sp, sd⟩ := s
    obtain ⟨pl, pp, pd⟩ := p
    obtain ⟨h1, h2, h3⟩ := h
    simp only at h1 h2 h3 hd
    subst h2; subst h3; subst h1
    have two : ∀ (x : UInt8) (hx : x = 38 ∨ x = 124) (sg : ByteArray) (hsg : sg = mkB [x, x]), takeP sg (pieces sl) = ((isS [x, x] sl).1, pieces (isS [x, x] sl).2) := fun x hx sg hsg => hsg ▸ take_two x hx sl
    have one : ∀ (x : UInt8) (hx : x = 33 ∨ x = 40 ∨ x = 41) (sg : ByteArray) (hsg : sg = mkB [x]) (l : List UInt8), takeP sg (pieces l) = ((isS [x] l).1, pieces (isS [x] l).2) := fun x hx sg hsg l => hsg ▸ take_one x hx l
    cases L with
    | ors =>
      simp only [lvl, lvlP]
      have i1 := ih .ands ⟨sl, pp, pd⟩ ⟨pieces sl, pp, pd⟩ ⟨rfl, rfl, rfl⟩ hd
      cases ha : lvl n .ands ⟨sl, pp, pd⟩ <;> cases hb : lvlP n .ands ⟨pieces sl, pp, pd⟩ <;> rw [ha, hb] at i1
      · exact ih .orsT _ _ i1 (by rw [lvl_deep _ _ _ _ ha]; exact hd)
      · exact i1.elim
      · exact i1.elim
      · exact i1
    | ands =>
      simp only [lvl, lvlP]
      have i1 := ih .nots ⟨sl, pp, pd⟩ ⟨pieces sl, pp, pd⟩ ⟨rfl, rfl, rfl⟩ hd
      cases ha : lvl n .nots ⟨sl, pp, pd⟩ <;> cases hb : lvlP n .nots ⟨pieces sl, pp, pd⟩ <;> rw [ha, hb] at i1
      · exact ih .andsT _ _ i1 (by rw [lvl_deep _ _ _ _ ha]; exact hd)
      · exact i1.elim
      · exact i1.elim
      · exact i1
    | orsT =>
      simp only [lvl, lvlP]
      rw [two 124 (.inr rfl) orB rfl]
      cases hs : isS [124, 124] sl with
      | mk b r =>
        cases b with
        | false => exact ⟨rfl, rfl, rfl⟩
        | true =>
          simp only
          have i1 := ih .ands ⟨r, pp, pd⟩ ⟨pieces r, pp, pd⟩ ⟨rfl, rfl, rfl⟩ hd
          cases ha : lvl n .ands ⟨r, pp, pd⟩ <;> cases hb : lvlP n .ands ⟨pieces r, pp, pd⟩ <;> rw [ha, hb] at i1
          · exact ih .orsT _ _ ⟨i1.1, by rw [i1.2.1], i1.2.2⟩ (by have := lvl_deep _ _ _ _ ha; simp only at this ⊢; omega)
          · exact i1.elim
          · exact i1.elim
          · exact i1
    | andsT =>
      simp only [lvl, lvlP]
      rw [two 38 (.inl rfl) andB rfl]
      cases hs : isS [38, 38] sl with
      | mk b r =>
        cases b with
        | false => exact ⟨rfl, rfl, rfl⟩
        | true =>
          simp only
          have i1 := ih .nots ⟨r, pp, pd⟩ ⟨pieces r, pp, pd⟩ ⟨rfl, rfl, rfl⟩ hd
          cases ha : lvl n .nots ⟨r, pp, pd⟩ <;> cases hb : lvlP n .nots ⟨pieces r, pp, pd⟩ <;> rw [ha, hb] at i1
          · exact ih .andsT _ _ ⟨i1.1, by rw [i1.2.1], i1.2.2⟩ (by have := lvl_deep _ _ _ _ ha; simp only at this ⊢; omega)
          · exact i1.elim
          · exact i1.elim
          · exact i1
    | nots =>
      simp only [lvl, lvlP]
      rw [one 33 (.inl rfl) notB rfl]
      cases hs : isS [33] sl with
      | mk b r =>
        have i1 := ih .part ⟨r, pp, pd⟩ ⟨pieces r, pp, pd⟩ ⟨rfl, rfl, rfl⟩ hd
        cases b with
        | false => exact i1
        | true =>
          simp only
          cases ha : lvl n .part ⟨r, pp, pd⟩ <;> cases hb : lvlP n .part ⟨pieces r, pp, pd⟩ <;> rw [ha, hb] at i1
          · exact ⟨i1.1, by rw [i1.2.1], i1.2.2⟩
          · exact i1.elim
          · exact i1.elim
          · exact i1
    | part =>
      simp only [lvl, lvlP]
      rw [one 40 (.inr (.inl rfl)) openB rfl]
      cases hs : isS [40] sl with
      | mk b r =>
        cases b with
        | true => exact ih .inner ⟨r, pp, pd⟩ ⟨pieces r, pp, pd⟩ ⟨rfl, rfl, rfl⟩ hd
        | false =>
          simp only
          have hr := isS_head hs
          rcases part_same r (fun c q e => trim_head (hr.symm.trans e)) with ⟨h1, h2⟩ | ⟨h1, q, h2, h3, h4⟩
          · rw [if_pos h1]
            cases hp : pieces r with
            | nil => exact rfl
            | cons x q =>
              rw [hp] at h2
              simp only at h2
              simp only [h2]
              exact rfl
          · rw [if_neg h1, h2]
            simp only [h3, if_true]
            exact ⟨h4, rfl, rfl⟩
    | inner =>
      simp only [lvl, lvlP]
      by_cases hd2 : pd = 64
      · subst hd2; exact rfl
      · rw [if_neg hd2, if_neg (by omega)]
        have i1 := ih .ors ⟨sl, pp, pd + 1⟩ ⟨pieces sl, pp, pd + 1⟩ ⟨rfl, rfl, rfl⟩ (by simp only; omega)
        cases ha : lvl n .ors ⟨sl, pp, pd + 1⟩ <;> cases hb : lvlP n .ors ⟨pieces sl, pp, pd + 1⟩ <;> rw [ha, hb] at i1
        · rename_i u v
          obtain ⟨e1, e2, e3⟩ := i1
          simp only
          rw [e1, one 41 (.inr (.inr rfl)) shutB rfl]
          cases hs : isS [41] u.rest with
          | mk b r =>
            cases b with
            | true => exact ⟨rfl, e2, by simp only; rw [e3]⟩
            | false => exact rfl
        · exact i1.elim
        · exact i1.elim
        · exact i1
end Go.Proofs.YtpibehfmbmincaaGreatDoor
