/- Plain lemmas: what stands between blanks, tabs and returns. -/
import Derived.Test.YtkmachhfibcdlaaDoorMa
import Derived.Lib.FieldsP
import Derived.Lib.TrimUEq
namespace Go.Proofs.YtkmachhfibcdlaaDoor
set_option linter.unusedSimpArgs false
open Go.Lib

def blank (b : UInt8) : Bool := b == 32 || b == 9 || b == 13
def pw (x : Nat) : Bool := x == 32 || x == 9 || x == 13
/-- What has been read of a word, if it has bytes, ahead of the others. -/
def flush (cur : List UInt8) (r : List (List UInt8)) : List (List UInt8) := if cur.isEmpty then r else cur :: r
theorem flush_nil (r : List (List UInt8)) : flush [] r = r := rfl
theorem flush_ne {cur : List UInt8} (h : cur ≠ []) (r : List (List UInt8)) : flush cur r = cur :: r := by
  cases cur with
  | nil => exact absurd rfl h
  | cons a l => rfl
theorem flush_app (cur : List UInt8) (r q : List (List UInt8)) : flush cur r ++ q = flush cur (r ++ q) := by
  unfold flush; split <;> rfl
/-- The words: what has been read of the last one stands ahead. -/
def wF : List UInt8 → List UInt8 → List (List UInt8)
  | [], cur => flush cur []
  | b :: r, cur => if blank b then flush cur (wF r []) else wF r (cur ++ [b])
theorem wF_nil (cur : List UInt8) : wF [] cur = flush cur [] := rfl
theorem wF_yes {b : UInt8} (h : blank b = true) (r cur : List UInt8) : wF (b :: r) cur = flush cur (wF r []) := if_pos h
theorem wF_no {b : UInt8} (h : blank b = false) (r cur : List UInt8) : wF (b :: r) cur = wF r (cur ++ [b]) := if_neg (by rw [h]; decide)
theorem wF_run : ∀ (x r cur : List UInt8), (∀ b ∈ x, blank b = false) → wF (x ++ r) cur = wF r (cur ++ x)
  | [], r, cur, _ => by simp
  | b :: x, r, cur, h => by
    rw [List.cons_append, wF_no (h b (List.mem_cons_self)), wF_run x r _ (fun c hc => h c (List.mem_cons_of_mem _ hc)), List.append_assoc]
    rfl
theorem blank_nat (b : UInt8) : blank b = pw b.toNat := by
  have : ∀ n : Fin 256, blank (UInt8.ofNat n.val) = pw (UInt8.ofNat n.val).toNat := by decide +kernel
  have h := this ⟨b.toNat, b.toNat_lt⟩
  simpa using h
theorem pw_iff (n : Nat) : pw n = true ↔ n = 32 ∨ n = 9 ∨ n = 13 := by simp [pw, or_assoc]
theorem pw_no {n : Nat} (h : 128 ≤ n) : pw n = false := by
  cases e : pw n with
  | false => rfl
  | true => rcases (pw_iff n).1 e with h1 | h1 | h1 <;> omega
def DP (n b0 b1 b2 b3 : Nat) (r : Nat × Nat) : Prop := pw r.1 = pw b0 ∧ r.2 ≤ n ∧ 1 ≤ r.2 ∧ (pw b0 = true → r.2 = 1) ∧ (1 < r.2 → pw b1 = false) ∧ (2 < r.2 → pw b2 = false) ∧ (3 < r.2 → pw b3 = false) ∧ r.2 ≤ 4
theorem dp_one {n b0 b1 b2 b3 x : Nat} (hn : 0 < n) (h0 : 128 ≤ b0) (hx : 128 ≤ x) : DP n b0 b1 b2 b3 (x, 1) :=
  ⟨by rw [pw_no h0, pw_no (n := (x, 1).1) hx], hn, Nat.le_refl _, fun _ => rfl, (fun h => absurd h (show ¬ 1 < 1 by decide)), (fun h => absurd h (show ¬ 2 < 1 by decide)), (fun h => absurd h (show ¬ 3 < 1 by decide)), (show 1 ≤ 4 by decide)⟩
theorem dp_ite {n b0 b1 b2 b3 : Nat} {c : Prop} [Decidable c] {x y : Nat × Nat} (hx : c → DP n b0 b1 b2 b3 x) (hy : ¬ c → DP n b0 b1 b2 b3 y) : DP n b0 b1 b2 b3 (if c then x else y) := by
  by_cases h : c
  · rw [if_pos h]; exact hx h
  · rw [if_neg h]; exact hy h
theorem dp_more {n b0 b1 b2 b3 x k : Nat} (h0 : 128 ≤ b0) (hx : 128 ≤ x) (hk : k ≤ n) (h1 : 1 ≤ k) (h4 : k ≤ 4) (c1 : 1 < k → 128 ≤ b1) (c2 : 2 < k → 128 ≤ b2) (c3 : 3 < k → 128 ≤ b3) : DP n b0 b1 b2 b3 (x, k) :=
  ⟨by rw [pw_no h0, pw_no (n := (x, k).1) hx], hk, h1, (fun e => by rw [pw_no h0] at e; cases e), fun h => pw_no (c1 h), fun h => pw_no (c2 h), fun h => pw_no (c3 h), h4⟩
theorem dp_all (n b0 b1 b2 b3 : Nat) (hn : 0 < n) : DP n b0 b1 b2 b3 (decodeN n b0 b1 b2 b3) := by
  unfold decodeN
  refine dp_ite (fun _ => ⟨rfl, hn, Nat.le_refl _, fun _ => rfl, (fun h => absurd h (show ¬ 1 < 1 by decide)), (fun h => absurd h (show ¬ 2 < 1 by decide)), (fun h => absurd h (show ¬ 3 < 1 by decide)), (show 1 ≤ 4 by decide)⟩) fun h0 => ?_
  refine dp_ite (fun c => dp_ite (fun d => dp_more (by omega) (by omega) (by omega) (by decide) (by decide) (fun _ => by omega) (fun h => absurd h (by decide)) (fun h => absurd h (by decide))) fun _ => dp_one hn (by omega) (by omega)) fun _ => ?_
  refine dp_ite (fun c => dp_ite (fun d => dp_more (by omega) (by omega) (by omega) (by decide) (by decide) (fun _ => by omega) (fun _ => by omega) (fun h => absurd h (by decide))) fun _ => dp_one hn (by omega) (by omega)) fun _ => ?_
  exact dp_ite (fun c => dp_ite (fun d => dp_more (by omega) (by omega) (by omega) (by decide) (by decide) (fun _ => by omega) (fun _ => by omega) (fun _ => by omega)) fun _ => dp_one hn (by omega) (by omega)) fun _ => dp_one hn (by omega) (by omega)
theorem dec_blank (s : ByteArray) (pos : Nat) (h : pos < s.size) :
    pw (Utf8.decode s pos).1 = pw (s.get! pos).toNat ∧ pos + (Utf8.decode s pos).2 ≤ s.size ∧ 1 ≤ (Utf8.decode s pos).2 ∧ (pw (s.get! pos).toNat = true → (Utf8.decode s pos).2 = 1) ∧ ∀ k, 0 < k → k < (Utf8.decode s pos).2 → pw (s.get! (pos + k)).toNat = false := by
  rw [decode_at]
  obtain ⟨h1, h2, h3, h4, h5, h6, h7, h8⟩ := dp_all (s.size - pos) (s.get! pos).toNat (s.get! (pos + 1)).toNat (s.get! (pos + 2)).toNat (s.get! (pos + 3)).toNat (by omega)
  refine ⟨h1, by omega, h3, h4, fun k k0 kl => ?_⟩
  rcases (by omega : k = 1 ∨ k = 2 ∨ k = 3) with rfl | rfl | rfl
  · exact h5 kl
  · exact h6 kl
  · exact h7 kl
theorem wF_split (c : UInt8) (hc : blank c = true) (b : List UInt8) : ∀ (a cur : List UInt8), wF (a ++ c :: b) cur = wF a cur ++ wF b []
  | [], cur => by rw [List.nil_append, wF_yes hc, wF_nil, flush_app, List.nil_append]
  | x :: r, cur => by
    rw [List.cons_append]
    cases hx : blank x with
    | true => rw [wF_yes hx, wF_yes hx, wF_split c hc b r [], flush_app]
    | false => rw [wF_no hx, wF_no hx, wF_split c hc b r _]
/-- A line's words. -/
def wordsB (s : ByteArray) : List ByteArray := (wF s.data.toList []).map mkB

theorem get_drop (s : ByteArray) (i : Nat) (h : i < s.size) : s.get! i = s.data.toList[i]'(by rw [← Lib.size_eq]; exact h) := by
  have h' : i < s.data.size := h
  show s.data[i]! = _
  rw [getElem!_pos s.data i h', Array.getElem_toList]
def curOf (l : List UInt8) (pos : Nat) : Option Nat → List UInt8 | none => [] | some a => (l.drop a).take (pos - a)
theorem spans_words (s : ByteArray) : ∀ (f pos : Nat) (st : Option Nat) (acc : List (Nat × Nat)), s.size - pos ≤ f → pos ≤ s.size → (∀ a, st = some a → a < pos) →
    (closeSpans s (spansFromP pw s f pos st acc)).map (fun x => s.extract x.1 x.2) = acc.map (fun x => s.extract x.1 x.2) ++ (wF (s.data.toList.drop pos) (curOf s.data.toList pos st)).map mkB := by
  intro f
  induction f with
  | zero =>
    intro pos st acc hf hp hst
    obtain rfl : pos = s.size := by omega
    have hl : s.data.toList.length = s.size := (Lib.size_eq s).symm
    rw [spansFromP_end _ _ _ _ _ _ (Nat.lt_irrefl _), List.drop_eq_nil_of_le (by omega)]
    cases st with
    | none => simp [closeSpans, curOf, wF_nil, flush_nil]
    | some a =>
      have ha := hst a rfl
      have hne : (s.data.toList.drop a).take (s.size - a) ≠ [] := by
        intro e
        have := congrArg List.length e
        rw [List.length_take, List.length_drop, hl] at this
        simp at this; omega
      simp only [closeSpans, curOf, wF_nil, flush_ne hne, List.map_append, List.map_cons, List.map_nil]
      congr 2
      apply ba_ext
      rw [Lib.extract_data, mkB_toList]
  | succ f ih =>
    intro pos st acc hf hp hst
    have hl : s.data.toList.length = s.size := (Lib.size_eq s).symm
    by_cases hlt : pos < s.size
    · obtain ⟨h1, h2, h3, h4, h5⟩ := dec_blank s pos hlt
      have hd : s.data.toList.drop pos = s.get! pos :: s.data.toList.drop (pos + 1) := by
        rw [get_drop s pos hlt, List.drop_eq_getElem_cons]
      unfold spansFromP
      rw [if_pos hlt]
      generalize hn : (Utf8.decode s pos).2 = n at *
      by_cases hb : pw (s.get! pos).toNat = true
      · have hn1 := h4 hb
        subst hn1
        rw [if_pos (by rw [h1]; exact hb), hd, wF_yes (by rw [blank_nat]; exact hb)]
        cases st with
        | none =>
          simp only
          rw [ih (pos + 1) none acc (by omega) (by omega) (fun a h => by cases h)]
          simp [curOf, flush_nil]
        | some a =>
          have ha := hst a rfl
          have hne : (s.data.toList.drop a).take (pos - a) ≠ [] := by
            intro e
            have := congrArg List.length e
            rw [List.length_take, List.length_drop, hl] at this
            simp at this; omega
          simp only [curOf]
          rw [ih (pos + 1) none _ (by omega) (by omega) (fun a h => by cases h), flush_ne hne]
          simp only [curOf, List.map_append, List.map_cons, List.map_nil, List.append_assoc, List.cons_append, List.nil_append]
          congr 2
          apply ba_ext
          rw [Lib.extract_data, mkB_toList]
      · have hb' : pw (s.get! pos).toNat = false := by simpa using hb
        have hrun : ∀ b ∈ (s.data.toList.drop pos).take n, blank b = false := fun b hb2 => by
          obtain ⟨k, hk⟩ := List.getElem?_of_mem hb2
          have hkn : k < n := by
            have := (List.getElem?_eq_some_iff.1 hk).1
            rw [List.length_take] at this; omega
          rw [List.getElem?_take_of_lt hkn, List.getElem?_drop, List.getElem?_eq_getElem (by omega)] at hk
          have e := get_drop s (pos + k) (by omega)
          rw [← Option.some.inj hk, ← e, blank_nat]
          by_cases k0 : k = 0
          · subst k0; exact hb'
          · exact h5 k (by omega) hkn
        have hsp : s.data.toList.drop pos = (s.data.toList.drop pos).take n ++ s.data.toList.drop (pos + n) := by
          rw [← List.drop_drop, List.take_append_drop]
        rw [if_neg (by rw [h1, hb']; decide), hsp, wF_run _ _ _ hrun]
        cases st with
        | none =>
          simp only
          rw [ih (pos + n) (some pos) acc (by omega) (by omega) (fun a h => by cases h; omega)]
          simp only [curOf, List.nil_append, Nat.add_sub_cancel_left]
        | some a =>
          have ha := hst a rfl
          simp only
          rw [ih (pos + n) (some a) acc (by omega) (by omega) (fun b h => by cases h; omega)]
          simp only [curOf]
          have e : (s.data.toList.drop a).take (pos + n - a) = (s.data.toList.drop a).take (pos - a) ++ (s.data.toList.drop pos).take n := by
            rw [show pos + n - a = (pos - a) + n by omega, List.take_add, List.drop_drop, show a + (pos - a) = pos by omega]
          rw [e]
    · obtain rfl : pos = s.size := by omega
      exact (by
        have h0 := ih s.size st acc (by omega) (Nat.le_refl _) hst
        rw [spansFromP_end _ _ _ _ _ _ (Nat.lt_irrefl _)] at h0 ⊢
        exact h0)
theorem fields_words (s : ByteArray) : goFieldsP pw s = wordsB s := by
  have := spans_words s s.size 0 none [] (by omega) (by omega) (fun a h => by cases h)
  unfold goFieldsP spansOfP wordsB
  rw [this]
  simp [curOf]
end Go.Proofs.YtkmachhfibcdlaaDoor
