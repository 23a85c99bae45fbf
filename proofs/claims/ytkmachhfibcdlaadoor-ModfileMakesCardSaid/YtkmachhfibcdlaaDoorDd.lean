/- Plain lemmas: lines that are made of words. -/
import Derived.Test.YtkmachhfibcdlaaDoorDc
namespace Go.Proofs.YtkmachhfibcdlaaDoor
set_option linter.unusedVariables false
set_option linter.unusedSimpArgs false
open Go.ChangeShapes Go.WideShapes Go.ChangeAt Go.RowKit

/-- No two slashes stand together. -/
def noSS : List UInt8 → Bool
  | a :: b :: r => !(a == 47 && b == 47) && noSS (b :: r)
  | _ => true
theorem noSS_two (a b : UInt8) (r : List UInt8) : noSS (a :: b :: r) = (!(a == 47 && b == 47) && noSS (b :: r)) := rfl
theorem cutN_all : ∀ (l : List UInt8), noSS l = true → cutN l = l
  | [], _ => rfl
  | [a], _ => by rw [cutN_cons, pre1, if_neg Bool.noConfusion, cutN_nil]
  | a :: b :: r, h => by
    rw [noSS_two, Bool.and_eq_true] at h
    rw [cutN_cons, pre2, if_neg (by
      intro e
      rw [e] at h
      exact absurd h.1 (by decide)), cutN_all (b :: r) h.2]
theorem noSS_app : ∀ (x r : List UInt8), noSS x = true → noSS r = true → noSS (x ++ 32 :: r) = true
  | [], r, _, hr => by
    show noSS (32 :: r) = true
    cases r with
    | nil => rfl
    | cons b r => rw [noSS_two, hr]; rfl
  | [a], r, _, hr => by
    show noSS (a :: 32 :: r) = true
    rw [noSS_two]
    have h2 := noSS_app [] r rfl hr
    rw [List.nil_append] at h2
    rw [h2]
    simp
  | a :: b :: x, r, hx, hr => by
    rw [noSS_two, Bool.and_eq_true] at hx
    have h2 := noSS_app (b :: x) r hx.2 hr
    show noSS (a :: b :: (x ++ 32 :: r)) = true
    rw [noSS_two, hx.1]
    exact h2
/-- Words, blanks between them. -/
def joinS : List (List UInt8) → List UInt8
  | [] => []
  | [x] => x
  | x :: y :: r => x ++ 32 :: joinS (y :: r)
structure Piece (x : List UInt8) : Prop where
  ne : x ≠ []
  bl : ∀ b ∈ x, blank b = false
  ss : noSS x = true
theorem noSS_join : ∀ (P : List (List UInt8)), (∀ x ∈ P, Piece x) → noSS (joinS P) = true
  | [], _ => rfl
  | [x], h => (h x List.mem_cons_self).ss
  | x :: y :: r, h => noSS_app x _ (h x List.mem_cons_self).ss (noSS_join (y :: r) (fun z hz => h z (List.mem_cons_of_mem _ hz)))
theorem wF_one {x : List UInt8} (h : Piece x) : wF x [] = [x] := by
  have := wF_run x [] [] h.bl
  rw [List.append_nil, List.nil_append] at this
  rw [this, wF_nil, flush_ne h.ne]
theorem wF_join : ∀ (P : List (List UInt8)), (∀ x ∈ P, Piece x) → wF (joinS P) [] = P
  | [], _ => rfl
  | [x], h => wF_one (h x List.mem_cons_self)
  | x :: y :: r, h => by
    show wF (x ++ 32 :: joinS (y :: r)) [] = _
    rw [wF_split 32 (by decide), wF_one (h x List.mem_cons_self), wF_join (y :: r) (fun z hz => h z (List.mem_cons_of_mem _ hz))]
    rfl
theorem words_join (P : List (List UInt8)) (h : ∀ x ∈ P, Piece x) : wordsL (mkB (joinS P)) = P.map mkB := by
  unfold wordsL wordsB
  rw [noteB_list, mkB_toList, cutN_all _ (noSS_join P h), wF_join P h]
/-- A word's bytes. -/
theorem word_byte {s : ByteArray} (h : wordP s) : ∀ b ∈ s.data.toList, (97 ≤ b.toNat ∧ b.toNat ≤ 122) ∨ (48 ≤ b.toNat ∧ b.toNat ≤ 57) ∨ b.toNat = 46 ∨ b.toNat = 47 := fun b hb => by
  obtain ⟨i, hi, he⟩ := List.mem_iff_getElem.1 hb
  have hs : i < s.size := by rw [Lib.size_eq]; exact hi
  have h1 := h.1 i hs
  have h2 : s.get! i = b := by
    have := byt_list hs
    rw [List.getElem?_eq_getElem hi, he] at this
    injection this with this
    exact this.symm
  unfold okw byt at h1
  rw [h2] at h1
  simp only [Bool.or_eq_true, decide_eq_true_eq] at h1
  omega
theorem word_ss {s : ByteArray} (h : wordP s) : noSS s.data.toList = true := by
  have hall : ∀ i, i + 1 < s.size → ¬ ((s.get! i).toNat = 47 ∧ (s.get! (i + 1)).toNat = 47) := fun i hi hc => by
    have h1 := h.1 (i + 1) hi
    unfold okw byt at h1
    rw [Nat.add_sub_cancel, hc.1, hc.2] at h1
    simp at h1
  have gen : ∀ (l : List UInt8) (k : Nat), (∀ j, j < l.length → l[j]? = some (s.get! (k + j))) → k + l.length = s.size → noSS l = true := by
    intro l
    induction l with
    | nil => intro k _ _; rfl
    | cons a l ih =>
      intro k hj hk
      cases l with
      | nil => rfl
      | cons b r =>
        rw [noSS_two, ih (k + 1) (fun j hj2 => by
          have := hj (j + 1) (by simpa using hj2)
          rw [List.getElem?_cons_succ] at this
          rw [this]
          congr 2
          omega) (by simp only [List.length_cons] at hk ⊢; omega), Bool.and_true]
        have ha : a = s.get! k := by have := hj 0 (by simp); simpa using this
        have hb : b = s.get! (k + 1) := by have := hj 1 (by simp); simpa using this
        have := hall k (by simp only [List.length_cons] at hk; omega)
        rw [Bool.not_eq_true']
        cases h47 : (a == 47 && b == 47) with
        | false => rfl
        | true =>
          rw [Bool.and_eq_true, beq_iff_eq, beq_iff_eq] at h47
          exact absurd ⟨by rw [← ha, h47.1]; rfl, by rw [← hb, h47.2]; rfl⟩ this
  exact gen s.data.toList 0 (fun j hj => by
    rw [Nat.zero_add]
    exact byt_list (by rw [Lib.size_eq]; exact hj)) (by rw [Nat.zero_add, ba_len])
theorem word_piece {s : ByteArray} (h : wordP s) : Piece s.data.toList := by
  refine ⟨fun e => h.2.1 (ba_ext e), fun b hb => ?_, word_ss h⟩
  have := word_byte h b hb
  rw [blank_nat]
  cases hp : pw b.toNat with
  | false => rfl
  | true => rcases (pw_iff _).1 hp with e | e | e <;> omega
theorem word_dir {s : ByteArray} (h : wordP s) : Piece ([46, 47] ++ s.data.toList) := by
  have hp := word_piece h
  refine ⟨by simp, fun b hb => ?_, ?_⟩
  · rcases List.mem_append.1 hb with hb | hb
    · have : ∀ c ∈ ([46, 47] : List UInt8), blank c = false := by decide
      exact this b hb
    · exact hp.bl b hb
  · have h0 : 0 < s.size := by
      rcases Nat.eq_zero_or_pos s.size with e | e
      · exact absurd (ba_ext (List.eq_nil_of_length_eq_zero (by rw [ba_len]; exact e))) h.2.1
      · exact e
    have h1 := h.1 0 h0
    cases hl : s.data.toList with
    | nil => rfl
    | cons c r =>
      have hc : c = s.get! 0 := by
        have := byt_list h0
        rw [hl] at this
        simpa using this
      have hss := hp.ss
      rw [hl] at hss
      show noSS (46 :: 47 :: c :: r) = true
      rw [noSS_two, noSS_two, hss, Bool.and_true]
      have : c ≠ 47 := fun e => by
        unfold okw byt at h1
        rw [← hc, e] at h1
        simp at h1
      simp [this]
theorem word_no10 {s : ByteArray} (h : wordP s) : (10 : UInt8) ∉ s.data.toList := fun hm => by
  have := word_byte h 10 hm
  have e : (10 : UInt8).toNat = 10 := rfl
  omega
end Go.Proofs.YtkmachhfibcdlaaDoor
