/- Plain lemmas: words, by bytes, by cuts and by runes. -/
import Derived.Test.YtpibehfmbmincaaGreatDoorQa
import Derived.Test.YtpibehfmbmincaaGreatDoorMa
namespace Go.Proofs.YtpibehfmbmincaaGreatDoor
set_option linter.unusedSimpArgs false
open Go.Lib

theorem wF_split (c : UInt8) (hc : blank c = true) (b : List UInt8) : ∀ (a cur : List UInt8), wF (a ++ c :: b) cur = wF a cur ++ wF b []
  | [], cur => by rw [List.nil_append, wF_yes hc, wF_nil, flush_app, List.nil_append]
  | x :: r, cur => by
    rw [List.cons_append]
    cases hx : blank x with
    | true => rw [wF_yes hx, wF_yes hx, wF_split c hc b r [], flush_app]
    | false => rw [wF_no hx, wF_no hx, wF_split c hc b r _]
def ne1 (l : List UInt8) : Bool := !l.isEmpty
theorem wF_plain (p : List UInt8) (h : ∀ b ∈ p, blank b = false) : wF p [] = [p].filter ne1 := by
  have := wF_run p [] [] h
  rw [List.append_nil, List.nil_append] at this
  rw [this, wF_nil]
  cases p with
  | nil => rfl
  | cons a r => rfl
theorem blank_two (b : UInt8) (h1 : b ≠ 32) (h2 : b ≠ 9) : blank b = false := by
  unfold blank
  rw [beq_false_of_ne h1, beq_false_of_ne h2]; rfl
theorem wF_tabs : ∀ (n : Nat) (a : List UInt8), a.length ≤ n → 32 ∉ a → (cuts 9 [] a).filter ne1 = wF a []
  | 0, a, hn, _ => by
    obtain rfl := List.eq_nil_of_length_eq_zero (Nat.le_zero.1 hn)
    rfl
  | n + 1, a, hn, h => by
    by_cases h9 : (9 : UInt8) ∈ a
    · obtain ⟨p, r, rfl, hp⟩ := List.eq_append_cons_of_mem h9
      rw [List.length_append, List.length_cons] at hn
      have h32 : 32 ∉ p ∧ 32 ∉ r := ⟨fun e => h (List.mem_append_left _ e), fun e => h (List.mem_append_right _ (List.mem_cons_of_mem _ e))⟩
      rw [cuts_at 9 p r [] hp, List.nil_append, List.filter_cons, wF_split 9 (by decide) r p [], wF_tabs n r (by omega) h32.2, wF_plain p (fun b hb => blank_two b (fun e => h32.1 (e ▸ hb)) (fun e => hp (e ▸ hb))), List.filter_cons, List.filter_nil]
      split <;> rfl
    · rw [cuts_none 9 a [] h9, List.nil_append, wF_plain a (fun b hb => blank_two b (fun e => h (e ▸ hb)) (fun e => h9 (e ▸ hb)))]
theorem wF_cuts : ∀ (n : Nat) (a : List UInt8), a.length ≤ n → ((cuts 32 [] a).flatMap (cuts 9 [])).filter ne1 = wF a []
  | 0, a, hn => by
    obtain rfl := List.eq_nil_of_length_eq_zero (Nat.le_zero.1 hn)
    rfl
  | n + 1, a, hn => by
    by_cases h9 : (32 : UInt8) ∈ a
    · obtain ⟨p, r, rfl, hp⟩ := List.eq_append_cons_of_mem h9
      rw [List.length_append, List.length_cons] at hn
      rw [cuts_at 32 p r [] hp, List.nil_append, List.flatMap_cons, List.filter_append, wF_split 32 (by decide) r p [], wF_cuts n r (by omega), wF_tabs p.length p (Nat.le_refl _) hp]
    · rw [cuts_none 32 a [] h9, List.nil_append, List.flatMap_cons, List.flatMap_nil, List.append_nil, wF_tabs a.length a (Nat.le_refl _) h9]
/-- A line's words. -/
def wordsB (s : ByteArray) : List ByteArray := (wF s.data.toList []).map mkB

theorem get_drop (s : ByteArray) (i : Nat) (h : i < s.size) : s.get! i = s.data.toList[i]'(by rw [← Lib.size_eq]; exact h) := by
  have h' : i < s.data.size := h
  show s.data[i]! = _
  rw [getElem!_pos s.data i h', Array.getElem_toList]
def curOf (l : List UInt8) (pos : Nat) : Option Nat → List UInt8 | none => [] | some a => (l.drop a).take (pos - a)
theorem spans_words (s : ByteArray) : ∀ (f pos : Nat) (st : Option Nat) (acc : List (Nat × Nat)), s.size - pos ≤ f → pos ≤ s.size → (∀ a, st = some a → a < pos) →
    (closeSpans s (spansFromP pw s f pos st acc)).map (fun x => s.extract x.1 x.2) = acc.map (fun x => s.extract x.1 x.2) ++ (wF (s.data.toList.drop pos) (curOf s.data.toList pos st)).map mkB := by
  intro f
  induction f with
  | zero =>
    intro pos st acc hf hp hst
    obtain rfl : pos = s.size := by omega
    have hl : s.data.toList.length = s.size := (Lib.size_eq s).symm
    rw [spansFromP_end _ _ _ _ _ _ (Nat.lt_irrefl _), List.drop_eq_nil_of_le (by omega)]
    cases st with
    | none => simp [closeSpans, curOf, wF_nil, flush_nil]
    | some a =>
      have ha := hst a rfl
      have hne : (s.data.toList.drop a).take (s.size - a) ≠ [] := by
        intro e
        have := congrArg List.length e
        rw [List.length_take, List.length_drop, hl] at this
        simp at this; omega
      simp only [closeSpans, curOf, wF_nil, flush_ne hne, List.map_append, List.map_cons, List.map_nil]
      congr 2
      apply ba_ext
      rw [Lib.extract_data, mkB_toList]
  | succ f ih =>
    intro pos st acc hf hp hst
    have hl : s.data.toList.length = s.size := (Lib.size_eq s).symm
    by_cases hlt : pos < s.size
    · obtain ⟨h1, h2, h3, h4, h5⟩ := dec_blank s pos hlt
      have hd : s.data.toList.drop pos = s.get! pos :: s.data.toList.drop (pos + 1) := by
        rw [get_drop s pos hlt, List.drop_eq_getElem_cons]
      unfold spansFromP
      rw [if_pos hlt]
      generalize hn : (Utf8.decode s pos).2 = n at *
      by_cases hb : pw (s.get! pos).toNat = true
      · have hn1 := h4 hb
        subst hn1
        rw [if_pos (by rw [h1]; exact hb), hd, wF_yes (by rw [blank_nat]; exact hb)]
        cases st with
        | none =>
          simp only
          rw [ih (pos + 1) none acc (by omega) (by omega) (fun a h => by cases h)]
          simp [curOf, flush_nil]
        | some a =>
          have ha := hst a rfl
          have hne : (s.data.toList.drop a).take (pos - a) ≠ [] := by
            intro e
            have := congrArg List.length e
            rw [List.length_take, List.length_drop, hl] at this
            simp at this; omega
          simp only [curOf]
          rw [ih (pos + 1) none _ (by omega) (by omega) (fun a h => by cases h), flush_ne hne]
          simp only [curOf, List.map_append, List.map_cons, List.map_nil, List.append_assoc, List.cons_append, List.nil_append]
          congr 2
          apply ba_ext
          rw [Lib.extract_data, mkB_toList]
      · have hb' : pw (s.get! pos).toNat = false := by simpa using hb
        have hrun : ∀ b ∈ (s.data.toList.drop pos).take n, blank b = false := fun b hb2 => by
          obtain ⟨k, hk⟩ := List.getElem?_of_mem hb2
          have hkn : k < n := by
            have := (List.getElem?_eq_some_iff.1 hk).1
            rw [List.length_take] at this; omega
          rw [List.getElem?_take_of_lt hkn, List.getElem?_drop, List.getElem?_eq_getElem (by omega)] at hk
          have e := get_drop s (pos + k) (by omega)
          rw [← Option.some.inj hk, ← e, blank_nat]
          by_cases k0 : k = 0
          · subst k0; exact hb'
          · exact h5 k (by omega) hkn
        have hsp : s.data.toList.drop pos = (s.data.toList.drop pos).take n ++ s.data.toList.drop (pos + n) := by
          rw [← List.drop_drop, List.take_append_drop]
        rw [if_neg (by rw [h1, hb']; decide), hsp, wF_run _ _ _ hrun]
        cases st with
        | none =>
          simp only
          rw [ih (pos + n) (some pos) acc (by omega) (by omega) (fun a h => by cases h; omega)]
          simp only [curOf, List.nil_append, Nat.add_sub_cancel_left]
        | some a =>
          have ha := hst a rfl
          simp only
          rw [ih (pos + n) (some a) acc (by omega) (by omega) (fun b h => by cases h; omega)]
          simp only [curOf]
          have e : (s.data.toList.drop a).take (pos + n - a) = (s.data.toList.drop a).take (pos - a) ++ (s.data.toList.drop pos).take n := by
            rw [show pos + n - a = (pos - a) + n by omega, List.take_add, List.drop_drop, show a + (pos - a) = pos by omega]
          rw [e]
    · obtain rfl : pos = s.size := by omega
      exact (by
        have h0 := ih s.size st acc (by omega) (Nat.le_refl _) hst
        rw [spansFromP_end _ _ _ _ _ _ (Nat.lt_irrefl _)] at h0 ⊢
        exact h0)
theorem fields_words (s : ByteArray) : goFieldsP pw s = wordsB s := by
  have := spans_words s s.size 0 none [] (by omega) (by omega) (fun a h => by cases h)
  unfold goFieldsP spansOfP wordsB
  rw [this]
  simp [curOf]
end Go.Proofs.YtpibehfmbmincaaGreatDoor
