/- Plain: constraints: the parser over bytes, the parser over pieces, and that they answer the same. -/
import Derived.Test.YtpibehfmbmincaaGreatDoorMa
import Derived.Lib.Strings
namespace Go.Proofs.YtpibehfmbmincaaGreatDoor
set_option linter.unusedVariables false

def tagC (b : UInt8) : Bool := (decide (97 ≤ b) && decide (b ≤ 122)) || (decide (65 ≤ b) && decide (b ≤ 90)) || (decide (48 ≤ b) && decide (b ≤ 57)) || b == 95 || b == 46
def blank (b : UInt8) : Bool := b == 32 || b == 9
def trimL (l : List UInt8) : List UInt8 := l.dropWhile blank
def isS (sg l : List UInt8) : Bool × List UInt8 := if sg.isPrefixOf (trimL l) then (true, (trimL l).drop sg.length) else (false, trimL l)
structure St where
  rest : List UInt8
  parts : List ByteArray
  deep : Nat
inductive Er | form | deep | fuel
  deriving DecidableEq
inductive Lv | ors | orsT | ands | andsT | nots | part | inner
inductive Rs | ok (s : St) | err (e : Er)
def orB : ByteArray := ⟨#[124, 124]⟩
def andB : ByteArray := ⟨#[38, 38]⟩
def notB : ByteArray := ⟨#[33]⟩
def openB : ByteArray := ⟨#[40]⟩
def shutB : ByteArray := ⟨#[41]⟩
def lvl : Nat → Lv → St → Rs
  | 0, _, _ => .err .fuel
  | n + 1, .ors, s => match lvl n .ands s with | .ok t => lvl n .orsT t | .err e => .err e
  | n + 1, .orsT, s => match isS [124, 124] s.rest with
    | (true, r) => match lvl n .ands { s with rest := r } with | .ok t => lvl n .orsT { t with parts := t.parts ++ [orB] } | .err e => .err e
    | (false, r) => .ok { s with rest := r }
  | n + 1, .ands, s => match lvl n .nots s with | .ok t => lvl n .andsT t | .err e => .err e
  | n + 1, .andsT, s => match isS [38, 38] s.rest with
    | (true, r) => match lvl n .nots { s with rest := r } with | .ok t => lvl n .andsT { t with parts := t.parts ++ [andB] } | .err e => .err e
    | (false, r) => .ok { s with rest := r }
  | n + 1, .nots, s => match isS [33] s.rest with
    | (true, r) => match lvl n .part { s with rest := r } with | .ok t => .ok { t with parts := t.parts ++ [notB] } | .err e => .err e
    | (false, r) => lvl n .part { s with rest := r }
  | n + 1, .part, s => match isS [40] s.rest with
    | (true, r) => lvl n .inner { s with rest := r }
    | (false, r) => if (r.takeWhile tagC) = [] then .err .form else .ok { rest := r.drop (r.takeWhile tagC).length, parts := s.parts ++ [mkB (r.takeWhile tagC)], deep := s.deep }
  | n + 1, .inner, s => if s.deep = 64 then .err .deep else match lvl n .ors { s with deep := s.deep + 1 } with
    | .ok t => match isS [41] t.rest with
      | (true, r) => .ok { rest := r, parts := t.parts, deep := t.deep - 1 }
      | (false, r) => .err .form
    | .err e => .err e

/-! ### Enough fuel -/
theorem trim_len (l : List UInt8) : (trimL l).length ≤ l.length := by
  unfold trimL
  induction l with
  | nil => simp
  | cons a r ih =>
    rw [List.dropWhile_cons]
    split
    · simp; omega
    · simp
theorem isS_len {sg l : List UInt8} {b : Bool} {r : List UInt8} (h : isS sg l = (b, r)) : r.length ≤ l.length := by
  have ht := trim_len l
  unfold isS at h
  split at h
  · cases h; rw [List.length_drop]; omega
  · cases h; exact ht
theorem isS_true {sg l r : List UInt8} (h : isS sg l = (true, r)) (h0 : 0 < sg.length) : r.length + sg.length ≤ l.length := by
  have ht := trim_len l
  unfold isS at h
  split at h
  · rename_i hp
    cases h
    rw [List.isPrefixOf_iff_prefix] at hp
    have := hp.length_le
    rw [List.length_drop]; omega
  · cases h
theorem isS_not {sg l : List UInt8} {b : Bool} {r : List UInt8} (h : isS sg l = (b, r)) : b = sg.isPrefixOf (trimL l) := by
  unfold isS at h
  split at h
  · rename_i hp; cases h; exact hp.symm
  · rename_i hp; cases h; exact (Bool.eq_false_iff.2 hp).symm
def rank : Lv → Nat | .part => 1 | .inner => 5 | .nots => 2 | .ands => 3 | .ors => 4 | .orsT => 2 | .andsT => 2
theorem lvl_small : ∀ (n : Nat) (L : Lv) (s : St), 8 * s.rest.length + rank L < n → lvl n L s ≠ .err .fuel ∧ ∀ t, lvl n L s = .ok t → t.rest.length ≤ s.rest.length := by
  intro n
  induction n with
  | zero => intro L s h; omega
  | succ n ih =>
    intro L s h
    cases L with
    | ors =>
      simp only [rank] at h
      have i1 := ih .ands s (by simp only [rank]; omega)
      simp only [lvl]
      cases ha : lvl n .ands s with
      | err e => simp only; rw [ha] at i1; exact ⟨i1.1, by simp⟩
      | ok t =>
        simp only
        have ht := i1.2 t ha
        have i2 := ih .orsT t (by simp only [rank]; omega)
        exact ⟨i2.1, fun u hu => Nat.le_trans (i2.2 u hu) ht⟩
    | ands =>
      simp only [rank] at h
      have i1 := ih .nots s (by simp only [rank]; omega)
      simp only [lvl]
      cases ha : lvl n .nots s with
      | err e => simp only; rw [ha] at i1; exact ⟨i1.1, by simp⟩
      | ok t =>
        simp only
        have ht := i1.2 t ha
        have i2 := ih .andsT t (by simp only [rank]; omega)
        exact ⟨i2.1, fun u hu => Nat.le_trans (i2.2 u hu) ht⟩
    | orsT =>
      simp only [rank] at h
      simp only [lvl]
      cases hs : isS [124, 124] s.rest with
      | mk b r =>
        cases b with
        | true =>
          simp only
          have hr := isS_true hs (by decide)
          simp only [List.length_cons, List.length_nil] at hr
          have i1 := ih .ands { s with rest := r } (by simp only [rank]; omega)
          cases ha : lvl n .ands { s with rest := r } with
          | err e => simp only; rw [ha] at i1; exact ⟨i1.1, by simp⟩
          | ok t =>
            simp only
            have ht := i1.2 t ha
            simp only at ht
            have i2 := ih .orsT { t with parts := t.parts ++ [orB] } (by simp only [rank]; omega)
            exact ⟨i2.1, fun u hu => by have := i2.2 u hu; simp only at this; omega⟩
        | false =>
          simp only
          have hr := isS_len hs
          exact ⟨by simp, fun u hu => by cases hu; exact hr⟩
    | andsT =>
      simp only [rank] at h
      simp only [lvl]
      cases hs : isS [38, 38] s.rest with
      | mk b r =>
        cases b with
        | true =>
          simp only
          have hr := isS_true hs (by decide)
          simp only [List.length_cons, List.length_nil] at hr
          have i1 := ih .nots { s with rest := r } (by simp only [rank]; omega)
          cases ha : lvl n .nots { s with rest := r } with
          | err e => simp only; rw [ha] at i1; exact ⟨i1.1, by simp⟩
          | ok t =>
            simp only
            have ht := i1.2 t ha
            simp only at ht
            have i2 := ih .andsT { t with parts := t.parts ++ [andB] } (by simp only [rank]; omega)
            exact ⟨i2.1, fun u hu => by have := i2.2 u hu; simp only at this; omega⟩
        | false =>
          simp only
          have hr := isS_len hs
          exact ⟨by simp, fun u hu => by cases hu; exact hr⟩
    | nots =>
      simp only [rank] at h
      simp only [lvl]
      cases hs : isS [33] s.rest with
      | mk b r =>
        have hr := isS_len hs
        have i1 := ih .part { s with rest := r } (by simp only [rank]; omega)
        cases b with
        | true =>
          simp only
          cases ha : lvl n .part { s with rest := r } with
          | err e => simp only; rw [ha] at i1; exact ⟨i1.1, by simp⟩
          | ok t =>
            simp only
            have ht := i1.2 t ha
            simp only at ht
            exact ⟨by simp, fun u hu => by cases hu; simp only; omega⟩
        | false =>
          simp only
          exact ⟨i1.1, fun u hu => by have := i1.2 u hu; simp only at this; omega⟩
    | part =>
      simp only [rank] at h
      simp only [lvl]
      cases hs : isS [40] s.rest with
      | mk b r =>
        have hr := isS_len hs
        cases b with
        | true =>
          simp only
          have hr := isS_true hs (by decide)
          simp only [List.length_cons, List.length_nil] at hr
          have i1 := ih .inner { s with rest := r } (by simp only [rank]; omega)
          exact ⟨i1.1, fun u hu => by have := i1.2 u hu; simp only at this; omega⟩
        | false =>
          simp only
          split
          · exact ⟨by simp, fun u hu => by cases hu⟩
          · exact ⟨by simp, fun u hu => by cases hu; simp only [List.length_drop]; omega⟩
    | inner =>
      simp only [rank] at h
      simp only [lvl]
      split
      · exact ⟨by simp, fun u hu => by cases hu⟩
      · have i1 := ih .ors { s with deep := s.deep + 1 } (by simp only [rank]; omega)
        cases ha : lvl n .ors { s with deep := s.deep + 1 } with
        | err e => simp only; rw [ha] at i1; exact ⟨i1.1, by simp⟩
        | ok t =>
          simp only
          have ht := i1.2 t ha
          simp only at ht
          cases hs : isS [41] t.rest with
          | mk b r =>
            have hr := isS_len hs
            cases b with
            | true => simp only; exact ⟨by simp, fun u hu => by cases hu; simp only; omega⟩
            | false => simp only; exact ⟨by simp, fun u hu => by cases hu⟩

/-! ### The parser over pieces -/
structure StP where
  left : List ByteArray
  parts : List ByteArray
  deep : Nat
inductive RsP | ok (s : StP) | err (e : Er)
def takeP (sg : ByteArray) : List ByteArray → Bool × List ByteArray
  | [] => (false, [])
  | x :: r => if x = sg then (true, r) else (false, x :: r)
def tagB (x : ByteArray) : Bool := !(x.data.toList.isEmpty) && x.data.toList.all tagC
def lvlP : Nat → Lv → StP → RsP
  | 0, _, _ => .err .fuel
  | n + 1, .ors, s => match lvlP n .ands s with | .ok t => lvlP n .orsT t | .err e => .err e
  | n + 1, .orsT, s => match takeP orB s.left with
    | (true, r) => match lvlP n .ands { s with left := r } with | .ok t => lvlP n .orsT { t with parts := t.parts ++ [orB] } | .err e => .err e
    | (false, r) => .ok { s with left := r }
  | n + 1, .ands, s => match lvlP n .nots s with | .ok t => lvlP n .andsT t | .err e => .err e
  | n + 1, .andsT, s => match takeP andB s.left with
    | (true, r) => match lvlP n .nots { s with left := r } with | .ok t => lvlP n .andsT { t with parts := t.parts ++ [andB] } | .err e => .err e
    | (false, r) => .ok { s with left := r }
  | n + 1, .nots, s => match takeP notB s.left with
    | (true, r) => match lvlP n .part { s with left := r } with | .ok t => .ok { t with parts := t.parts ++ [notB] } | .err e => .err e
    | (false, r) => lvlP n .part { s with left := r }
  | n + 1, .part, s => match takeP openB s.left with
    | (true, r) => lvlP n .inner { s with left := r }
    | (false, r) => match r with
      | [] => .err .form
      | x :: q => if tagB x then .ok { left := q, parts := s.parts ++ [x], deep := s.deep } else .err .form
  | n + 1, .inner, s => if 64 < s.deep + 1 then .err .deep else match lvlP n .ors { s with deep := s.deep + 1 } with
    | .ok t => match takeP shutB t.left with
      | (true, r) => .ok { left := r, parts := t.parts, deep := t.deep - 1 }
      | (false, r) => .err .form
    | .err e => .err e

def noneB : ByteArray := ⟨#[]⟩
def piecesF : Nat → List UInt8 → List ByteArray
  | 0, _ => []
  | _ + 1, [] => []
  | n + 1, c :: r =>
    if blank c then piecesF n r
    else if tagC c then mkB ((c :: r).takeWhile tagC) :: piecesF n (r.drop (r.takeWhile tagC).length)
    else if c = 33 ∨ c = 40 ∨ c = 41 then mkB [c] :: piecesF n r
    else match r with
      | [] => [noneB]
      | d :: q => if (c = 38 ∧ d = 38) ∨ (c = 124 ∧ d = 124) then mkB [c, d] :: piecesF n q else [noneB]
def pieces (l : List UInt8) : List ByteArray := piecesF l.length l
theorem piecesF_eq : ∀ (n m : Nat) (l : List UInt8), l.length ≤ n → l.length ≤ m → piecesF n l = piecesF m l := by
  intro n
  induction n with
  | zero =>
    intro m l h1 h2
    have : l = [] := List.eq_nil_of_length_eq_zero (by omega)
    subst this
    cases m <;> rfl
  | succ n ih =>
    intro m l h1 h2
    cases l with
    | nil => cases m <;> rfl
    | cons c r =>
      cases m with
      | zero => simp at h2
      | succ m =>
        simp only [List.length_cons] at h1 h2
        simp only [piecesF]
        rw [ih m r (by omega) (by omega), ih m (r.drop (r.takeWhile tagC).length) (by rw [List.length_drop]; omega) (by rw [List.length_drop]; omega)]
        cases r with
        | nil => rfl
        | cons d q =>
          simp only [List.length_cons] at h1 h2
          simp only
          rw [ih m q (by omega) (by omega)]
theorem pieces_cons (c : UInt8) (r : List UInt8) : pieces (c :: r) =
    if blank c then pieces r
    else if tagC c then mkB ((c :: r).takeWhile tagC) :: pieces (r.drop (r.takeWhile tagC).length)
    else if c = 33 ∨ c = 40 ∨ c = 41 then mkB [c] :: pieces r
    else match r with
      | [] => [noneB]
      | d :: q => if (c = 38 ∧ d = 38) ∨ (c = 124 ∧ d = 124) then mkB [c, d] :: pieces q else [noneB] := by
  unfold pieces
  rw [List.length_cons]
  simp only [piecesF]
  rw [piecesF_eq r.length (r.drop (r.takeWhile tagC).length).length (r.drop (r.takeWhile tagC).length) (by rw [List.length_drop]; omega) (Nat.le_refl _)]
  cases r with
  | nil => rfl
  | cons d q =>
    simp only [List.length_cons]
    rw [piecesF_eq (q.length + 1) q.length q (by omega) (Nat.le_refl _)]
theorem pieces_trim (l : List UInt8) : pieces (trimL l) = pieces l := by
  unfold trimL
  induction l with
  | nil => rfl
  | cons a r ih =>
    rw [List.dropWhile_cons]
    split
    · rename_i h; rw [ih, pieces_cons a r, if_pos h]
    · rfl
theorem trim_head {l : List UInt8} {c : UInt8} {r : List UInt8} (h : trimL l = c :: r) : blank c = false := by
  unfold trimL at h
  induction l with
  | nil => cases h
  | cons a q ih =>
    rw [List.dropWhile_cons] at h
    split at h
    · exact ih h
    · rename_i hb; cases h; exact Bool.eq_false_iff.2 hb
theorem tag_not_blank {c : UInt8} (h : blank c = true) : tagC c = false := by
  unfold blank at h
  simp only [Bool.or_eq_true, beq_iff_eq] at h
  rcases h with rfl | rfl <;> decide
end Go.Proofs.YtpibehfmbmincaaGreatDoor
