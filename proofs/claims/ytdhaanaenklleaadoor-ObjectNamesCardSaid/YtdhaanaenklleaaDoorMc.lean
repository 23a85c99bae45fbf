/- Plain: the order of texts and of lists of texts. -/
import Derived.Test.YtdhaanaenklleaaDoorMb
namespace Go.Proofs.YtdhaanaenklleaaDoor
set_option linter.unusedVariables false

def lex {α : Type} [DecidableEq α] (lt : α → α → Bool) : List α → List α → Bool
  | _, [] => false
  | [], _ :: _ => true
  | a :: x, b :: y => lt a b || (decide (a = b) && lex lt x y)
structure SO {α : Type} (lt : α → α → Bool) : Prop where
  irr : ∀ a, lt a a = false
  tra : ∀ a b c, lt a b = true → lt b c = true → lt a c = true
  tri : ∀ a b, lt a b = false → lt b a = false → a = b
theorem SO.asy {α : Type} {lt : α → α → Bool} (h : SO lt) {a b : α} (h1 : lt a b = true) : lt b a = false := by
  cases e : lt b a with
  | false => rfl
  | true => have := h.tra _ _ _ h1 e; rw [h.irr] at this; cases this
theorem SO.lex {α : Type} [DecidableEq α] {lt : α → α → Bool} (h : SO lt) : SO (lex lt) := by
  refine ⟨?_, ?_, ?_⟩
  · intro a
    induction a with
    | nil => rfl
    | cons x r ih => simp only [YtdhaanaenklleaaDoor.lex]; rw [h.irr, ih]; simp
  · intro a
    induction a with
    | nil =>
      intro b c h1 h2
      cases c with
      | nil => cases b <;> simp [YtdhaanaenklleaaDoor.lex] at h2
      | cons z t => rfl
    | cons x r ih =>
      intro b c h1 h2
      cases b with
      | nil => simp [YtdhaanaenklleaaDoor.lex] at h1
      | cons y s =>
        cases c with
        | nil => simp [YtdhaanaenklleaaDoor.lex] at h2
        | cons z t =>
          simp only [YtdhaanaenklleaaDoor.lex, Bool.or_eq_true, Bool.and_eq_true, decide_eq_true_iff] at h1 h2 ⊢
          rcases h1 with h1 | ⟨rfl, h1⟩
          · rcases h2 with h2 | ⟨rfl, h2⟩
            · exact .inl (h.tra _ _ _ h1 h2)
            · exact .inl h1
          · rcases h2 with h2 | ⟨rfl, h2⟩
            · exact .inl h2
            · exact .inr ⟨rfl, ih _ _ h1 h2⟩
  · intro a
    induction a with
    | nil =>
      intro b h1 h2
      cases b with
      | nil => rfl
      | cons y s => simp [YtdhaanaenklleaaDoor.lex] at h1
    | cons x r ih =>
      intro b h1 h2
      cases b with
      | nil => simp [YtdhaanaenklleaaDoor.lex] at h2
      | cons y s =>
        simp only [YtdhaanaenklleaaDoor.lex, Bool.or_eq_false_iff, Bool.and_eq_false_iff, decide_eq_false_iff_not] at h1 h2
        have e := h.tri x y h1.1 h2.1
        subst e
        rw [ih s (by rcases h1.2 with h | h; exact absurd rfl h; exact h) (by rcases h2.2 with h | h; exact absurd rfl h; exact h)]
def cmpO {α : Type} [DecidableEq α] (lt : α → α → Bool) (a b : α) : Int := if lt a b then -1 else if a = b then 0 else 1
section
variable {α : Type} [DecidableEq α] {lt : α → α → Bool} (h : SO lt)
include h
theorem SO.neg (a b : α) : cmpO lt b a = - cmpO lt a b := by
  unfold cmpO
  cases h1 : lt a b with
  | true =>
    have h2 := h.asy h1
    rw [h2, if_neg (by decide), if_neg (fun e => by subst e; rw [h.irr] at h1; cases h1), if_pos rfl]; rfl
  | false =>
    cases h2 : lt b a with
    | true => rw [if_pos rfl, if_neg (by decide), if_neg (fun e => by subst e; rw [h.irr] at h2; cases h2)]
    | false => have e := h.tri a b h1 h2; subst e; simp
theorem SO.zero (a b : α) : cmpO lt a b = 0 ↔ a = b := by
  unfold cmpO
  constructor
  · intro e
    split at e
    · omega
    · split at e
      · assumption
      · omega
  · rintro rfl; rw [h.irr]; simp
theorem SO.le (a b c : α) (h1 : cmpO lt a b ≤ 0) (h2 : cmpO lt b c ≤ 0) : cmpO lt a c ≤ 0 := by
  unfold cmpO at *
  split at h1
  · rename_i e1
    split at h2
    · rename_i e2
      rw [if_pos (h.tra _ _ _ e1 e2)]; omega
    · split at h2
      · rename_i e2; subst e2; rw [if_pos e1]; omega
      · omega
  · split at h1
    · rename_i e1; subst e1; exact h2
    · omega
end

theorem u8_so : SO (fun a b : UInt8 => decide (a < b)) := by
  refine ⟨fun a => ?_, fun a b c h1 h2 => ?_, fun a b h1 h2 => ?_⟩
  · exact decide_eq_false (UInt8.lt_irrefl a)
  · exact decide_eq_true (UInt8.lt_trans (of_decide_eq_true h1) (of_decide_eq_true h2))
  · have h1 := of_decide_eq_false h1
    have h2 := of_decide_eq_false h2
    rw [UInt8.lt_iff_toNat_lt] at h1 h2
    exact UInt8.toNat_inj.1 (by omega)
theorem less_lex : ∀ x y : List UInt8, Op.bytesLess x y = lex (fun a b : UInt8 => decide (a < b)) x y
  | [], [] => rfl
  | _ :: _, [] => rfl
  | [], _ :: _ => rfl
  | a :: x, b :: y => by
    show (decide (a < b) || (a == b && Op.bytesLess x y)) = (decide (a < b) || (decide (a = b) && lex _ x y))
    rw [less_lex x y]; rfl
def bl (a b : ByteArray) : Bool := Op.bytesLess a.toList b.toList
theorem bl_so : SO bl := by
  have h := u8_so.lex
  refine ⟨fun a => ?_, fun a b c h1 h2 => ?_, fun a b h1 h2 => ?_⟩
  · unfold bl; rw [less_lex]; exact h.irr _
  · unfold bl at *; rw [less_lex] at *; exact h.tra _ _ _ h1 h2
  · unfold bl at *; rw [less_lex] at *
    have := h.tri _ _ h1 h2
    rw [Lib.toList_data, Lib.toList_data] at this
    exact ba_ext this
def ord (a b : ByteArray) : Int := cmpO bl a b
def cmpL (a b : List ByteArray) : Int := cmpO (lex bl) a b
theorem cmpL_cons (x y : ByteArray) (r s : List ByteArray) : cmpL (x :: r) (y :: s) = if ord x y = 0 then cmpL r s else ord x y := by
  unfold cmpL ord
  by_cases e : x = y
  · subst e
    rw [if_pos ((bl_so.zero x x).2 rfl)]
    unfold cmpO
    have : lex bl (x :: r) (x :: s) = lex bl r s := by simp only [lex]; rw [bl_so.irr]; simp
    rw [this]
    simp
  · rw [if_neg (fun h => e ((bl_so.zero x y).1 h))]
    unfold cmpO
    have : lex bl (x :: r) (y :: s) = bl x y := by simp only [lex]; simp [e]
    rw [this, if_neg e]
    simp [e]
theorem cmpL_app (p r s : List ByteArray) : cmpL (p ++ r) (p ++ s) = cmpL r s := by
  induction p with
  | nil => rfl
  | cons x p ih => rw [List.cons_append, List.cons_append, cmpL_cons, if_pos (show ord x x = 0 from (bl_so.zero x x).2 rfl), ih]
theorem cmpL_nil : cmpL [] [] = 0 := rfl
theorem cmpL_left (y : ByteArray) (s : List ByteArray) : cmpL [] (y :: s) = -1 := rfl
theorem cmpL_right (y : ByteArray) (s : List ByteArray) : cmpL (y :: s) [] = 1 := rfl
theorem ord_less {a b : ByteArray} (h : Op.bytesLess a.toList b.toList = true) : ord a b = -1 := by
  unfold ord cmpO bl; rw [h]; rfl
theorem ord_more {a b : ByteArray} (h : Op.bytesLess a.toList b.toList = false) (h2 : (!a.toList == b.toList) = true) : ord a b = 1 := by
  unfold ord cmpO bl
  rw [h, if_neg (by decide), if_neg (fun e => by subst e; simp at h2)]
theorem ord_same {a b : ByteArray} (h : Op.bytesLess a.toList b.toList = false) (h2 : (!a.toList == b.toList) = false) : ord a b = 0 := by
  have e : a = b := by
    have : a.toList = b.toList := by simpa using h2
    rw [Lib.toList_data, Lib.toList_data] at this
    exact ba_ext this
  subst e
  exact (bl_so.zero a a).2 rfl
/-- Up to k the same. -/
theorem cmpL_at (a b : List ByteArray) (k : Nat) (h : a.take k = b.take k) : cmpL a b = cmpL (a.drop k) (b.drop k) := by
  conv => lhs; rw [← List.take_append_drop k a, ← List.take_append_drop k b, h, cmpL_app]
theorem drop_getD (a : List ByteArray) (k : Nat) (h : k < a.length) : a.drop k = a.getD k ByteArray.empty :: a.drop (k + 1) := by
  have e : a.getD k ByteArray.empty = a[k] := by simp [List.getD, h]
  rw [e, List.getElem_cons_drop]
theorem take_getD (a : List ByteArray) (k : Nat) (h : k < a.length) : a.take (k + 1) = a.take k ++ [a.getD k ByteArray.empty] := by
  have e : a.getD k ByteArray.empty = a[k] := by simp [List.getD, h]
  rw [e, List.take_succ_eq_append_getElem h]
end Go.Proofs.YtdhaanaenklleaaDoor
