/- Plain: what the statements on patterns come to. -/
import Derived.Test.YtaaggfccbbimbaaMa
namespace Go.Proofs.Ytaaggfccbbimbaa

theorem parseG_fuel : ∀ (n : Nat) (m : Nat) (l : List UInt8), l.length ≤ n → l.length ≤ m → parseG n l = parseG m l := by
  intro n
  induction n with
  | zero => intro m l h1 h2; cases l with
    | nil => cases m <;> rfl
    | cons x t => simp at h1
  | succ n ih =>
    intro m l h1 h2
    cases l with
    | nil => cases m <;> rfl
    | cons x t =>
      cases m with
      | zero => simp at h2
      | succ m =>
        show (match pieceP (x :: t) with | (none, _) => none | (some p, r) => (parseG n r).map (p :: ·)) = (match pieceP (x :: t) with | (none, _) => none | (some p, r) => (parseG m r).map (p :: ·))
        cases hp : pieceP (x :: t) with
        | mk o r =>
          cases o with
          | none => rfl
          | some p =>
            have := pieceP_some hp
            simp at this h1 h2
            show (parseG n r).map (p :: ·) = (parseG m r).map (p :: ·)
            rw [ih m r (by omega) (by omega)]
def parseL (l : List UInt8) : Option (List Pc) := parseG l.length l
theorem parse_nil : parseL [] = some [] := rfl
theorem parse_step {x : UInt8} {l r : List UInt8} {p : Pc} (h : pieceP (x :: l) = (some p, r)) : parseL (x :: l) = (parseL r).map (p :: ·) := by
  have hl := pieceP_some h
  unfold parseL
  show (match pieceP (x :: l) with | (none, _) => none | (some p, r) => (parseG l.length r).map (p :: ·)) = _
  rw [h]
  simp at hl
  show (parseG l.length r).map (p :: ·) = _
  rw [parseG_fuel l.length r.length r (by omega) (Nat.le_refl _)]
theorem parse_stop {x : UInt8} {l r : List UInt8} (h : pieceP (x :: l) = (none, r)) : parseL (x :: l) = none := by
  unfold parseL
  show (match pieceP (x :: l) with | (none, _) => none | (some p, r) => (parseG l.length r).map (p :: ·)) = _
  rw [h]

def litP (b : UInt8) : Pc := ⟨false, false, [(b, b)]⟩
def starP : Pc := ⟨true, true, []⟩
def anyP : Pc := ⟨false, true, []⟩
theorem has_lit (b c : UInt8) : hasP (litP b) c = decide (c = b) := by
  unfold hasP litP inSp
  by_cases h : c = 47
  · rw [if_pos h, h, Bool.eq_iff_iff]; simp [eq_comm]
  · rw [if_neg h]
    have e : ([(b, b)] : List Sp).any (fun x => decide (x.1 ≤ c) && decide (c ≤ x.2)) = decide (c = b) := by
      rw [Bool.eq_iff_iff]; simp [← UInt8.toNat_inj, UInt8.le_iff_toNat_le]; omega
    show (if ([(b, b)] : List Sp).any (fun x => decide (x.1 ≤ c) && decide (c ≤ x.2)) = true then !false else false) = _
    rw [e]; cases decide (c = b) <;> rfl
theorem has_star (c : UInt8) : hasP starP c = decide (c ≠ 47) := by
  unfold hasP starP
  by_cases h : c = 47
  · rw [if_pos h, h]; rfl
  · rw [if_neg h, decide_eq_true h]; rfl
theorem has_anyP (c : UInt8) : hasP anyP c = decide (c ≠ 47) := has_star c

/-! Quotes. -/
def quoted (l : List UInt8) : List UInt8 := l.flatMap fun c => [92, c]
theorem piece_quoted (c : UInt8) (r : List UInt8) : pieceP (92 :: c :: r) = (some (litP c), r) := rfl
theorem parse_quoted (l : List UInt8) : parseL (quoted l) = some (l.map litP) := by
  induction l with
  | nil => rfl
  | cons c r ih =>
    show parseL (92 :: c :: quoted r) = _
    rw [parse_step (piece_quoted c (quoted r)), ih]; rfl
theorem mat_lits (l : List UInt8) : ∀ s, Mat (l.map litP) s ↔ s = l := by
  induction l with
  | nil => intro s; exact Iff.rfl
  | cons c r ih =>
    intro s
    constructor
    · rintro ⟨u, v, rfl, h1, h2⟩
      obtain ⟨d, rfl, hd⟩ : ∃ d, u = [d] ∧ hasP (litP c) d = true := h1
      rw [has_lit, decide_eq_true_iff] at hd
      rw [(ih v).1 h2, hd]; rfl
    · rintro rfl
      exact ⟨[c], r, rfl, ⟨c, rfl, by rw [has_lit]; simp⟩, (ih r).2 rfl⟩
theorem matB_eq (ps : List Pc) (s : List UInt8) (b : Bool) (h : Mat ps s ↔ b = true) : matB ps s = b := by
  rw [Bool.eq_iff_iff, matB_iff, h]

/-! One pattern behind the other. -/
theorem isC_app {c : UInt8} {l r z : List UInt8} (h : isC c l = (true, r)) : isC c (l ++ z) = (true, r ++ z) := by
  rw [isC_true h, List.cons_append, isC_cons, if_pos rfl]
theorem isC_app_no {c : UInt8} {l z : List UInt8} (h : isC c l = (false, l)) (hne : l ≠ []) : isC c (l ++ z) = (false, l ++ z) := by
  cases l with
  | nil => exact absurd rfl hne
  | cons x t =>
    rw [isC_cons] at h
    rw [List.cons_append, isC_cons]
    split at h
    · simp at h
    · rename_i e; rw [if_neg e]
theorem isC_form (c : UInt8) (l : List UInt8) : (∃ r, isC c l = (true, r)) ∨ isC c l = (false, l) := by
  rcases h : isC c l with ⟨b, r⟩
  cases b with
  | true => exact .inl ⟨r, rfl⟩
  | false => rw [(isC_false h).1]; exact .inr rfl
theorem signP_app {l r z : List UInt8} {b : UInt8} (h : signP l = (some b, r)) : signP (l ++ z) = (some b, r ++ z) := by
  unfold signP at h ⊢
  rcases isC_form 92 l with ⟨l1, e⟩ | e
  · rw [e] at h
    rw [isC_app e]
    cases l1 with
    | nil => simp at h
    | cons x t => simp at h ⊢; exact ⟨h.1, by rw [h.2]⟩
  · rw [e] at h
    cases l with
    | nil => simp at h
    | cons x t =>
      rw [isC_app_no e (by simp)]
      simp at h ⊢; exact ⟨h.1, by rw [h.2]⟩
theorem endP_app {l r z : List UInt8} {b : UInt8} (h : endP l = (some b, r)) : endP (l ++ z) = (some b, r ++ z) := by
  cases l with
  | nil => exact absurd h (by show signP [] ≠ _; simp [signP, isC])
  | cons x t =>
    have h' : (if x = 93 ∨ x = 45 then (none, x :: t) else signP (x :: t)) = (some b, r) := h
    show (if x = 93 ∨ x = 45 then (none, x :: (t ++ z)) else signP (x :: t ++ z)) = _
    split at h'
    · simp at h'
    · rename_i e; rw [if_neg e]; exact signP_app h'
theorem spanP_app {l r z : List UInt8} {x : Sp} (h : spanP l = (some x, r)) (hr : r ≠ []) : spanP (l ++ z) = (some x, r ++ z) := by
  unfold spanP at h ⊢
  cases he : endP l with
  | mk o r1 =>
    rw [he] at h
    cases o with
    | none => simp at h
    | some a =>
      rw [endP_app he]
      simp only at h ⊢
      rcases isC_form 45 r1 with ⟨r2, e⟩ | e
      · rw [e] at h
        rw [isC_app e]
        simp only at h ⊢
        cases he2 : endP r2 with
        | mk o2 r3 =>
          rw [he2] at h
          cases o2 with
          | none => simp at h
          | some b =>
            rw [endP_app he2]
            simp only at h ⊢
            split at h
            · rename_i hab; rw [if_pos hab]; simp at h ⊢; exact ⟨h.1, by rw [h.2]⟩
            · simp at h
      · rw [e] at h
        simp at h
        rw [isC_app_no e (by rw [h.2]; exact hr)]
        simp; exact ⟨h.1, by rw [h.2]⟩
theorem spanP_nil : spanP [] = (none, []) := rfl
theorem classP_succ (n : Nat) (acc : List Sp) (l : List UInt8) : classP (n + 1) acc l = match spanP l with | (none, r) => (none, r) | (some x, r) => match isC 93 r with | (true, r2) => (some (acc ++ [x]), r2) | (false, r2) => classP n (acc ++ [x]) r2 := rfl
theorem classP_nil (n : Nat) (acc : List Sp) : (classP n acc []).1 = none := by cases n <;> rfl
theorem classP_app : ∀ (n m : Nat) (acc s : List Sp) (l r z : List UInt8), classP n acc l = (some s, r) → n ≤ m → classP m acc (l ++ z) = (some s, r ++ z) := by
  intro n
  induction n with
  | zero => intro m acc s l r z h; simp [classP] at h
  | succ n ih =>
    intro m acc s l r z h hm
    obtain ⟨m, rfl⟩ : ∃ k, m = k + 1 := ⟨m - 1, by omega⟩
    rw [classP_succ] at h ⊢
    cases hs : spanP l with
    | mk o r1 =>
      rw [hs] at h
      cases o with
      | none => simp at h
      | some x =>
        simp only at h
        rcases isC_form 93 r1 with ⟨r2, e⟩ | e
        · have hne : r1 ≠ [] := by rw [isC_true e]; simp
          rw [e] at h
          rw [spanP_app hs hne]
          simp only
          rw [isC_app e]
          simp at h ⊢; exact ⟨h.1, by rw [h.2]⟩
        · rw [e] at h
          simp only at h
          have hne : r1 ≠ [] := by rintro rfl; have := classP_nil n (acc ++ [x]); rw [h] at this; simp at this
          rw [spanP_app hs hne]
          simp only
          rw [isC_app_no e hne]
          exact ih m _ s r1 r z h (by omega)
theorem pieceP_app {l r z : List UInt8} {p : Pc} (h : pieceP l = (some p, r)) : pieceP (l ++ z) = (some p, r ++ z) := by
  have hne : l ≠ [] := by rintro rfl; have := pieceP_some h; simp at this
  unfold pieceP at h ⊢
  rcases isC_form 42 l with ⟨l1, e⟩ | e
  · rw [e] at h; rw [isC_app e]; simp at h ⊢; exact ⟨h.1, by rw [h.2]⟩
  · rw [e] at h; rw [isC_app_no e hne]
    simp only at h ⊢
    rcases isC_form 63 l with ⟨l1, e⟩ | e
    · rw [e] at h; rw [isC_app e]; simp at h ⊢; exact ⟨h.1, by rw [h.2]⟩
    · rw [e] at h; rw [isC_app_no e hne]
      simp only at h ⊢
      rcases isC_form 91 l with ⟨l1, e⟩ | e
      · rw [e] at h; rw [isC_app e]
        simp only at h ⊢
        have hl1 : l1 ≠ [] := by rintro rfl; simp [isC] at h; revert h; simp [classP, spanP, endP, signP, isC]
        rcases isC_form 94 l1 with ⟨l2, e2⟩ | e2
        · rw [e2] at h; rw [isC_app e2]
          simp only at h ⊢
          cases hc : classP (l2.length + 1) [] l2 with
          | mk o r2 =>
            rw [hc] at h
            cases o with
            | none => simp at h
            | some s =>
              rw [classP_app _ ((l2 ++ z).length + 1) _ _ _ _ z hc (by simp)]
              simp at h ⊢; exact ⟨h.1, by rw [h.2]⟩
        · rw [e2] at h; rw [isC_app_no e2 hl1]
          simp only at h ⊢
          cases hc : classP (l1.length + 1) [] l1 with
          | mk o r2 =>
            rw [hc] at h
            cases o with
            | none => simp at h
            | some s =>
              rw [classP_app _ ((l1 ++ z).length + 1) _ _ _ _ z hc (by simp)]
              simp at h ⊢; exact ⟨h.1, by rw [h.2]⟩
      · rw [e] at h; rw [isC_app_no e hne]
        simp only at h ⊢
        cases hs : signP l with
        | mk o r2 =>
          rw [hs] at h
          cases o with
          | none => simp at h
          | some b => rw [signP_app hs]; simp at h ⊢; exact ⟨h.1, by rw [h.2]⟩
theorem parse_app : ∀ (n : Nat) (a b : List UInt8) (ps qs : List Pc), a.length ≤ n → parseL a = some ps → parseL b = some qs → parseL (a ++ b) = some (ps ++ qs) := by
  intro n
  induction n with
  | zero => intro a b ps qs hn ha hb; obtain rfl := List.eq_nil_of_length_eq_zero (by omega : a.length = 0); rw [parse_nil] at ha; cases ha; exact hb
  | succ n ih =>
    intro a b ps qs hn ha hb
    cases a with
    | nil => rw [parse_nil] at ha; cases ha; exact hb
    | cons x t =>
      cases hp : pieceP (x :: t) with
      | mk o r =>
        cases o with
        | none => rw [parse_stop hp] at ha; cases ha
        | some p =>
          have hr := pieceP_some hp
          simp at hr hn
          rw [parse_step hp] at ha
          cases hpr : parseL r with
          | none => rw [hpr] at ha; cases ha
          | some rs =>
            rw [hpr] at ha
            cases ha
            have := pieceP_app (z := b) hp
            rw [List.cons_append] at this ⊢
            rw [parse_step this, ih r b rs qs (by omega) hpr hb]; rfl

/-! Stars, and signs. -/
def noSl (l : List UInt8) : Bool := l.all fun c => decide (c ≠ 47)
theorem one_star (u : List UInt8) : One starP u ↔ noSl u = true := by
  show (∀ b ∈ u, hasP starP b = true) ↔ _
  unfold noSl
  rw [List.all_eq_true]
  constructor
  · intro h x hx; rw [← has_star]; exact h x hx
  · intro h x hx; rw [has_star]; exact h x hx
theorem mat_starB (s : List UInt8) : matB [starP] s = noSl s := matB_eq _ _ _ (by rw [mat_one, one_star])
theorem parse_star : parseL [42] = some [starP] := rfl
theorem mat_any (n : Nat) : ∀ s, Mat (List.replicate n anyP) s ↔ s.length = n ∧ noSl s = true := by
  induction n with
  | zero => intro s; constructor
            · intro h; rw [show s = [] from h]; exact ⟨rfl, rfl⟩
            · intro h; exact List.eq_nil_of_length_eq_zero h.1
  | succ n ih =>
    intro s
    rw [List.replicate_succ]
    constructor
    · rintro ⟨u, v, rfl, h1, h2⟩
      obtain ⟨d, rfl, hd⟩ : ∃ d, u = [d] ∧ hasP anyP d = true := h1
      obtain ⟨h3, h4⟩ := (ih v).1 h2
      rw [has_anyP] at hd
      refine ⟨by simp; omega, ?_⟩
      unfold noSl at h4 ⊢
      rw [List.all_append, h4]; simpa using hd
    · rintro ⟨h1, h2⟩
      cases s with
      | nil => simp at h1
      | cons d v =>
        unfold noSl at h2
        rw [List.all_cons, Bool.and_eq_true] at h2
        exact ⟨[d], v, rfl, ⟨d, rfl, by rw [has_anyP]; exact h2.1⟩, (ih v).2 ⟨by simpa using h1, h2.2⟩⟩
theorem noSl_app (a b : List UInt8) : noSl (a ++ b) = (noSl a && noSl b) := List.all_append
theorem mat_star_any (n : Nat) (s : List UInt8) : Mat (starP :: List.replicate n anyP) s ↔ n ≤ s.length ∧ noSl s = true := by
  constructor
  · rintro ⟨u, v, rfl, h1, h2⟩
    rw [one_star] at h1
    obtain ⟨h3, h4⟩ := (mat_any n v).1 h2
    exact ⟨by simp; omega, by rw [noSl_app, h1, h4]; rfl⟩
  · rintro ⟨h1, h2⟩
    rw [← List.take_append_drop (s.length - n) s, noSl_app, Bool.and_eq_true] at h2
    exact ⟨s.take (s.length - n), s.drop (s.length - n), (List.take_append_drop _ _).symm, (one_star _).2 h2.1, (mat_any n _).2 ⟨by simp; omega, h2.2⟩⟩
theorem mat_any_star (n : Nat) (s : List UInt8) : Mat (List.replicate n anyP ++ [starP]) s ↔ n ≤ s.length ∧ noSl s = true := by
  rw [mat_app]
  constructor
  · rintro ⟨u, v, rfl, h1, h2⟩
    rw [mat_one, one_star] at h2
    obtain ⟨h3, h4⟩ := (mat_any n u).1 h1
    exact ⟨by simp; omega, by rw [noSl_app, h2, h4]; rfl⟩
  · rintro ⟨h1, h2⟩
    rw [← List.take_append_drop n s, noSl_app, Bool.and_eq_true] at h2
    exact ⟨s.take n, s.drop n, (List.take_append_drop _ _).symm, (mat_any n _).2 ⟨by simp; omega, h2.1⟩, by rw [mat_one, one_star]; exact h2.2⟩
theorem parse_anys (n : Nat) : parseL (List.replicate n 63) = some (List.replicate n anyP) := by
  induction n with
  | zero => rfl
  | succ n ih => rw [List.replicate_succ, List.replicate_succ, parse_step (r := List.replicate n 63) (p := anyP) rfl, ih]; rfl

/-! Many stars. -/
def starsL : Nat → List UInt8 | 0 => [] | n + 1 => 42 :: 97 :: starsL n
def starsP : Nat → List Pc | 0 => [] | n + 1 => starP :: litP 97 :: starsP n
theorem starsL_snoc (n : Nat) : starsL n ++ [42, 97] = starsL (n + 1) := by
  induction n with
  | zero => rfl
  | succ n ih => show 42 :: 97 :: (starsL n ++ [42, 97]) = 42 :: 97 :: starsL (n + 1); rw [ih]
theorem parse_stars (n : Nat) : parseL (starsL n) = some (starsP n) := by
  induction n with
  | zero => rfl
  | succ n ih =>
    show parseL (42 :: 97 :: starsL n) = _
    rw [parse_step (r := 97 :: starsL n) (p := starP) rfl, parse_step (r := starsL n) (p := litP 97) rfl, ih]; rfl
theorem rep_split {n : Nat} {u v : List UInt8} (h : List.replicate n (97 : UInt8) = u ++ v) : u = List.replicate u.length 97 ∧ v = List.replicate v.length 97 ∧ n = u.length + v.length := by
  have hl : n = u.length + v.length := by have := congrArg List.length h; simpa using this
  refine ⟨?_, ?_, hl⟩
  · rw [List.eq_replicate_iff]; exact ⟨rfl, fun b hb => List.eq_of_mem_replicate (n := n) (by rw [h]; simp [hb])⟩
  · rw [List.eq_replicate_iff]; exact ⟨rfl, fun b hb => List.eq_of_mem_replicate (n := n) (by rw [h]; simp [hb])⟩
theorem noSl_rep (n : Nat) : noSl (List.replicate n 97) = true := by
  unfold noSl; rw [List.all_eq_true]; intro x hx; rw [List.eq_of_mem_replicate hx]; decide
theorem mat_stars (k : Nat) : ∀ n, Mat (starsP k) (List.replicate n 97) ↔ (k = 0 ∧ n = 0) ∨ (0 < k ∧ k ≤ n) := by
  induction k with
  | zero => intro n; constructor
            · intro h; have : n = 0 := by have := congrArg List.length (show List.replicate n (97 : UInt8) = [] from h); simpa using this
              exact .inl ⟨rfl, this⟩
            · rintro (⟨_, rfl⟩ | ⟨h, _⟩)
              · rfl
              · omega
  | succ k ih =>
    intro n
    constructor
    · rintro ⟨u, v, h, h1, w, x, rfl, h2, h3⟩
      obtain ⟨d, rfl, _⟩ : ∃ d, w = [d] ∧ hasP (litP 97) d = true := h2
      obtain ⟨_, hv, hn⟩ := rep_split h
      have hx : x = List.replicate x.length 97 := by
        rw [List.eq_replicate_iff]; refine ⟨rfl, fun b hb => ?_⟩
        have hb' : b ∈ [d] ++ x := by simp [hb]
        rw [hv] at hb'
        exact List.eq_of_mem_replicate hb'
      rw [hx] at h3
      have := (ih x.length).1 h3
      simp at hn
      right
      rcases this with ⟨rfl, h⟩ | ⟨h, h'⟩ <;> omega
    · rintro (⟨h, _⟩ | ⟨_, h⟩)
      · omega
      · by_cases hk : k = 0
        · subst hk
          refine ⟨List.replicate (n - 1) 97, [97], ?_, (one_star _).2 (noSl_rep _), [97], [], rfl, ⟨97, rfl, by rw [has_lit]; rfl⟩, rfl⟩
          rw [show ([97] : List UInt8) = List.replicate 1 97 from rfl, List.replicate_append_replicate]; congr 1; omega
        · refine ⟨List.replicate (n - 1 - k) 97, 97 :: List.replicate k 97, ?_, (one_star _).2 (noSl_rep _), [97], List.replicate k 97, rfl, ⟨97, rfl, by rw [has_lit]; rfl⟩, (ih k).2 (.inr ⟨by omega, Nat.le_refl _⟩)⟩
          rw [← List.replicate_succ, List.replicate_append_replicate]; congr 1; omega
theorem piece_one {c : UInt8} (h1 : c ≠ 92) (h2 : c ≠ 42) (h3 : c ≠ 63) (h4 : c ≠ 91) (r : List UInt8) : pieceP (c :: r) = (some (litP c), r) := by
  have e1 : isC 42 (c :: r) = (false, c :: r) := by rw [isC_cons, if_neg h2]
  have e2 : isC 63 (c :: r) = (false, c :: r) := by rw [isC_cons, if_neg h3]
  have e3 : isC 91 (c :: r) = (false, c :: r) := by rw [isC_cons, if_neg h4]
  have e4 : isC 92 (c :: r) = (false, c :: r) := by rw [isC_cons, if_neg h1]
  unfold pieceP
  rw [e1]; simp only; rw [e2]; simp only; rw [e3]; simp only
  have : signP (c :: r) = (some c, r) := by unfold signP; rw [e4]
  rw [this]; rfl
theorem long_mat (k n : Nat) (c : UInt8) : Mat (starsP k ++ [litP c]) (List.replicate n 97 ++ [c]) ↔ (k = 0 ∧ n = 0) ∨ (0 < k ∧ k ≤ n) := by
  rw [mat_app, ← mat_stars]
  constructor
  · rintro ⟨u, v, h, h1, h2⟩
    rw [mat_one] at h2
    obtain ⟨d, rfl, _⟩ : ∃ d, v = [d] ∧ hasP (litP c) d = true := h2
    rw [(snoc_inj h).1]; exact h1
  · intro h
    exact ⟨_, [c], rfl, h, by rw [mat_one]; exact ⟨c, rfl, by rw [has_lit]; simp⟩⟩

/-! Classes. -/
theorem parse_cl (a : UInt8) : parseL [91, 92, a, 93] = some [⟨false, false, [(a, a)]⟩] := rfl
theorem parse_cln (a : UInt8) : parseL [91, 94, 92, a, 93] = some [⟨false, true, [(a, a)]⟩] := rfl
theorem span_two (a b : UInt8) (r : List UInt8) : spanP (92 :: a :: 45 :: 92 :: b :: 93 :: r) = if a ≤ b then (some (a, b), 93 :: r) else (none, 93 :: r) := rfl
theorem parse_clr (a b : UInt8) : parseL [91, 92, a, 45, 92, b, 93] = if a ≤ b then some [⟨false, false, [(a, b)]⟩] else none := by
  have e : pieceP [91, 92, a, 45, 92, b, 93] = match classP 7 [] [92, a, 45, 92, b, 93] with | (some s, r) => (some ⟨false, false, s⟩, r) | (none, r) => (none, r) := rfl
  rw [classP_succ, span_two] at e
  by_cases h : a ≤ b
  · rw [if_pos h] at e ⊢
    rw [parse_step (r := []) (p := ⟨false, false, [(a, b)]⟩) e]; rfl
  · rw [if_neg h] at e ⊢
    exact parse_stop (r := [93]) e
theorem mat_sign (p : Pc) (hp : p.many = false) (c : UInt8) : matB [p] [c] = hasP p c := matB_eq _ _ _ (by
  rw [mat_one]; unfold One; rw [hp]
  constructor
  · rintro ⟨d, h, hd⟩; cases h; exact hd
  · intro h; exact ⟨c, rfl, h⟩)
theorem has_cl (a c : UInt8) : hasP ⟨false, false, [(a, a)]⟩ c = decide (a = c) := by
  have := has_lit a c; unfold litP at this; rw [this, Bool.eq_iff_iff]; simp [eq_comm]
theorem has_cln (a c : UInt8) : hasP ⟨false, true, [(a, a)]⟩ c = (decide (a ≠ c) && decide (c ≠ 47)) := by
  unfold hasP inSp
  by_cases h : c = 47
  · rw [if_pos h, h]; simp
  · rw [if_neg h, decide_eq_true h]
    rw [Bool.and_true, Bool.eq_iff_iff]
    simp [← UInt8.toNat_inj, UInt8.le_iff_toNat_le]; omega
theorem has_clr (a b c : UInt8) : hasP ⟨false, false, [(a, b)]⟩ c = ((decide (a ≤ c) && decide (c ≤ b)) && (decide (c ≠ 47) || decide (a = b))) := by
  unfold hasP inSp
  by_cases h : c = 47
  · rw [if_pos h, h, Bool.eq_iff_iff]; simp [← UInt8.toNat_inj, UInt8.le_iff_toNat_le]; omega
  · rw [if_neg h, Bool.eq_iff_iff]; simp [h]
end Go.Proofs.Ytaaggfccbbimbaa
