/- Theory: tokens of a text that is made of pieces. -/
import Derived.Test.YtejogobhnbjpdaaDoorUa
namespace Go.Proofs.YtejogobhnbjpdaaDoor
set_option linter.unusedVariables false
set_option linter.unusedSimpArgs false
open Go.ChangeShapes Go.WideShapes Go.ChangeAt Go.RowKit

/-- What stands from a place on. -/
def Rest (s : ByteArray) (q : Nat) (X : List UInt8) : Prop := q ≤ s.size ∧ s.data.toList.drop q = X
theorem Rest.start (s : ByteArray) : Rest s 0 s.data.toList := ⟨Nat.zero_le _, rfl⟩
theorem Rest.app {s : ByteArray} {q : Nat} {w R : List UInt8} (h : Rest s q (w ++ R)) : Rest s (q + w.length) R := by
  obtain ⟨h1, h2⟩ := h
  have h3 := congrArg List.length h2
  rw [List.length_drop, ← Lib.size_eq, List.length_append] at h3
  refine ⟨by omega, ?_⟩
  rw [← List.drop_drop, h2, List.drop_left]
theorem Rest.tail {s : ByteArray} {q : Nat} {c : UInt8} {R : List UInt8} (h : Rest s q (c :: R)) : Rest s (q + 1) R := Rest.app (w := [c]) h
theorem Rest.at_ {s : ByteArray} {q : Nat} {c : UInt8} {R : List UInt8} (h : Rest s q (c :: R)) : q < s.size ∧ byt s q = c.toNat := by
  obtain ⟨h1, h2⟩ := h
  have h3 := congrArg List.length h2
  rw [List.length_drop, ← Lib.size_eq, List.length_cons] at h3
  have hq : q < s.size := by omega
  refine ⟨hq, ?_⟩
  have h4 : (s.data.toList.drop q)[0]? = some c := by rw [h2]; rfl
  rw [List.getElem?_drop, Nat.add_zero, byt_list hq] at h4
  injection h4 with h4
  unfold byt; rw [h4]
theorem Rest.pre {s : ByteArray} {q : Nat} {X : List UInt8} (h : Rest s q X) (Y : List UInt8) : pre s q Y = Lib.hasPrefix X Y := by
  unfold Proofs.YtejogobhnbjpdaaDoor.pre; rw [h.2]
theorem Rest.ext {s : ByteArray} {q : Nat} {w R : List UInt8} (h : Rest s q (w ++ R)) : s.extract q (q + w.length) = ⟨w.toArray⟩ := by
  apply ba_ext
  rw [Lib.extract_data, Nat.add_sub_cancel_left, h.2, List.take_left]
theorem Rest.rune {s : ByteArray} {q : Nat} {c : UInt8} {R : List UInt8} (h : Rest s q (c :: R)) (h0 : 0 < c.toNat) (h1 : c.toNat < 128) : runeAt s q = ((c.toNat : Int), 1) :=
  rune_low h.at_.1 h.at_.2 h0 h1

/-- A letter, a digit, or _; without digits. -/
def wordC (c : UInt8) : Bool := (decide (97 ≤ c.toNat) && decide (c.toNat ≤ 122)) || (decide (65 ≤ c.toNat) && decide (c.toNat ≤ 90)) || (decide (48 ≤ c.toNat) && decide (c.toNat ≤ 57)) || decide (c.toNat = 95)
def letC (c : UInt8) : Bool := wordC c && !(decide (48 ≤ c.toNat) && decide (c.toNat ≤ 57))
theorem wordC_le {c : UInt8} (h : wordC c = true) : 48 ≤ c.toNat ∧ c.toNat ≤ 122 := by
  simp [wordC] at h
  omega
theorem wordC_rune {c : UInt8} (h1 : c.toNat < 128) : (letR (c.toNat : Int) || digR (c.toNat : Int)) = wordC c := by
  rw [Bool.eq_iff_iff]
  simp [letR, digR, wordC]
  omega
theorem letC_rune {c : UInt8} (h : letC c = true) : letR (c.toNat : Int) = true := by
  simp [letC, wordC] at h
  simp [letR]
  omega
theorem letC_word {c : UInt8} (h : letC c = true) : wordC c = true := (Bool.and_eq_true_iff.1 h).1
theorem ident_word {s : ByteArray} {c : UInt8} {R : List UInt8} (h0 : 0 < c.toNat) (h1 : c.toNat < 128) (hc : wordC c = false) : ∀ (w : List UInt8) (q : Nat), Rest s q (w ++ c :: R) → (∀ x ∈ w, wordC x = true) → identE s q = q + w.length
  | [], q, h, _ => by
    have h : Rest s q (c :: R) := h
    rw [identE, dif_pos h.at_.1, h.rune h0 h1, if_neg (by rw [wordC_rune h1, hc]; exact Bool.noConfusion)]
    rfl
  | a :: w, q, h, hw => by
    have h : Rest s q (a :: (w ++ c :: R)) := h
    have ha := hw a List.mem_cons_self
    have hl := wordC_le ha
    rw [identE, dif_pos h.at_.1, h.rune (by omega) (by omega), if_pos (by rw [wordC_rune (by omega)]; exact ha)]
    show identE s (q + 1) = _
    rw [ident_word h0 h1 hc w (q + 1) h.tail (fun x hx => hw x (List.mem_cons_of_mem _ hx)), List.length_cons]
    omega
theorem th_word {s : ByteArray} {q : Nat} {a c : UInt8} {w R : List UInt8} (h : Rest s q (a :: w ++ c :: R)) (ha : letC a = true) (hw : ∀ x ∈ w, wordC x = true) (h0 : 0 < c.toNat) (h1 : c.toNat < 128) (hc : wordC c = false) :
    thing s q = .tok 1 (q + (a :: w).length) := by
  have hA : Rest s q (a :: (w ++ c :: R)) := h
  have hl := wordC_le (letC_word ha)
  have hp : ∀ y : UInt8, pre s q [47, y] = false := fun y => by
    rw [hA.pre]
    have : a ≠ 47 := fun e => by rw [e] at hl; exact absurd hl.1 (by decide)
    simp [Lib.hasPrefix, List.isPrefixOf]
    intro e; exact absurd e.symm this
  have hr := hA.rune (by omega) (by omega)
  have hb : blkR (a.toNat : Int) = false := decide_eq_false (by omega)
  rw [thing_eq, hr, if_neg (show ¬ ((a.toNat : Int) = 10) by omega), if_neg (by rw [hb]; exact Bool.noConfusion), if_neg (by rw [hp]; exact Bool.noConfusion), if_neg (by rw [hp]; exact Bool.noConfusion), if_pos (letC_rune ha),
    ident_word h0 h1 hc (a :: w) q h (fun x hx => by rcases List.mem_cons.1 hx with rfl | hx; (· exact letC_word ha); (· exact hw x hx))]
theorem go_word {s : ByteArray} {q : Nat} {a c : UInt8} {w R : List UInt8} (h : Rest s q (a :: w ++ c :: R)) (ha : letC a = true) (hw : ∀ x ∈ w, wordC x = true) (h0 : 0 < c.toNat) (h1 : c.toNat < 128) (hc : wordC c = false) (l m : List Tk) :
    lexT s q l m = lexT s (q + (a :: w).length) (l ++ [(1, ⟨(a :: w).toArray⟩, q)]) m := by
  have hA : Rest s q (a :: (w ++ c :: R)) := h
  have ht := th_word h ha hw h0 h1 hc
  rw [lexT_step hA.at_.1 (by rw [ht]; rfl), ht]
  show lexT s (q + (a :: w).length) (l ++ [(1, s.extract q (q + (a :: w).length), q)]) m = _
  rw [h.ext]
theorem go_lf {s : ByteArray} {q : Nat} {R : List UInt8} (h : Rest s q (10 :: R)) (l m : List Tk) : lexT s q l m = lexT s (q + 1) (feedL l q) m := by
  have hr := h.rune (by decide) (by decide)
  have ht : thing s q = .lf := by rw [thing_eq, hr, if_pos (by decide)]
  rw [lexT_step h.at_.1 (by rw [ht]; rfl), ht]
  rfl
theorem go_bl {s : ByteArray} {q : Nat} {c : UInt8} {R : List UInt8} (h : Rest s q (c :: R)) (hc : c = 32 ∨ c = 9) (l m : List Tk) : lexT s q l m = lexT s (q + 1) l m := by
  have ht : thing s q = .blank := by
    rcases hc with rfl | rfl
    · rw [thing_eq, h.rune (by decide) (by decide), if_neg (by decide), if_pos (by decide)]
    · rw [thing_eq, h.rune (by decide) (by decide), if_neg (by decide), if_pos (by decide)]
  rw [lexT_step h.at_.1 (by rw [ht]; rfl), ht]
  rfl
/-- A sign that stands between quotes: none below a blank, no quote, no backslash, none above 7E. -/
def quoC (c : UInt8) : Bool := decide (32 ≤ c.toNat) && decide (c.toNat < 127) && decide (c.toNat ≠ 34) && decide (c.toNat ≠ 92)
theorem quoC_word {c : UInt8} (h : wordC c = true) : quoC c = true := by
  simp [wordC] at h
  simp [quoC]
  omega
theorem quot_text {s : ByteArray} {a : Nat} {R : List UInt8} : ∀ (w : List UInt8) (q : Nat), Rest s q (w ++ 34 :: R) → (∀ x ∈ w, quoC x = true) → quotR s 34 a q false = .inr (q + w.length + 1)
  | [], q, h, _ => by
    have h : Rest s q (34 :: R) := h
    rw [quotR, dif_pos h.at_.1, h.rune (by decide) (by decide), if_neg (by decide), if_neg (by decide), if_pos ⟨rfl, rfl⟩, if_neg (fun x => absurd x.1 (by decide))]
    rfl
  | x :: w, q, h, hw => by
    have h : Rest s q (x :: (w ++ 34 :: R)) := h
    have hx := hw x List.mem_cons_self
    have hx : 32 ≤ x.toNat ∧ x.toNat < 127 ∧ x.toNat ≠ 34 ∧ x.toNat ≠ 92 := by simp [quoC] at hx; omega
    rw [quotR, dif_pos h.at_.1, h.rune (by omega) (by omega), if_neg (show ¬ ((x.toNat : Int) = 10) by omega), if_neg (show ¬ ((x.toNat : Int) < 0) by omega), if_neg (fun k => by have : ((x.toNat : Int)) = ((34 : Nat) : Int) := k.1; omega)]
    have hd : decide ((x.toNat : Int) = 92) = false := decide_eq_false (by omega)
    show quotR s 34 a (q + 1) (decide ((x.toNat : Int) = 92) && !false) = _
    rw [hd, Bool.false_and, quot_text w (q + 1) h.tail (fun y hy => hw y (List.mem_cons_of_mem _ hy)), List.length_cons]
    congr 1; omega
theorem go_str {s : ByteArray} {q : Nat} {w R : List UInt8} (h : Rest s q (34 :: (w ++ 34 :: R))) (hw : ∀ x ∈ w, quoC x = true) (l m : List Tk) :
    lexT s q l m = lexT s (q + (w.length + 2)) (l ++ [(4, ⟨(34 :: (w ++ [34])).toArray⟩, q)]) m := by
  have hr := h.rune (by decide) (by decide)
  have hp : ∀ y : UInt8, pre s q [47, y] = false := fun y => by
    rw [h.pre]
    simp [Lib.hasPrefix, List.isPrefixOf]
  have ht : thing s q = .tok 4 (q + (w.length + 2)) := by
    rw [thing_eq, hr, if_neg (by decide), if_neg (by decide), if_neg (by rw [hp]; exact Bool.noConfusion), if_neg (by rw [hp]; exact Bool.noConfusion), if_neg (by decide), if_neg (by simp [digTest, digR]), if_neg (by decide), if_pos (by decide), quot_text w (q + 1) h.tail hw]
    show Th.tok 4 (q + 1 + w.length + 1) = _
    congr 1; omega
  rw [lexT_step h.at_.1 (by rw [ht]; rfl), ht]
  show lexT s (q + (w.length + 2)) (l ++ [(4, s.extract q (q + (w.length + 2)), q)]) m = _
  have h2 : Rest s q ((34 :: (w ++ [34])) ++ R) := by simpa using h
  have h3 := h2.ext
  rw [show (34 :: (w ++ [34]) : List UInt8).length = w.length + 2 by simp] at h3
  rw [h3]
/-- A sign of one byte that no longer one begins with. -/
theorem go_sign {s : ByteArray} {q : Nat} {c : UInt8} {R : List UInt8} (h : Rest s q (c :: R)) (hc : c = 40 ∨ c = 41 ∨ (c = 46 ∧ ∃ R', R = 32 :: R')) (l m : List Tk) :
    lexT s q l m = lexT s (q + 1) (l ++ [(5, ⟨#[c]⟩, q)]) m := by
  have hq := h.at_.1
  have h0 : 0 < c.toNat ∧ c.toNat < 128 ∧ c ≠ 47 := by rcases hc with rfl | rfl | ⟨rfl, _⟩ <;> decide
  have hr := h.rune h0.1 h0.2.1
  have hp : ∀ y : UInt8, pre s q [47, y] = false := fun y => by
    rw [h.pre]
    simp [Lib.hasPrefix, List.isPrefixOf]
    intro e; exact absurd e.symm h0.2.2
  have hx1 : s.extract q (q + 1) = ⟨#[c]⟩ := Rest.ext (w := [c]) (R := R) h
  have no : ∀ k, 2 ≤ k → ¬ sgB s q k := fun k hk hs => by
    obtain ⟨h1, h2⟩ := hs
    have h3 : (s.extract q (q + k)).data.toList = (c :: R).take k := by
      rw [Lib.extract_data, Nat.add_sub_cancel_left, h.2]
    have h4 : (c :: R).take k = c :: R.take (k - 1) := by
      obtain ⟨j, rfl⟩ : ∃ j, k = j + 1 := ⟨k - 1, by omega⟩
      rfl
    have hlen : (R.take (k - 1)).length = k - 1 := by
      have := congrArg List.length h.2
      rw [List.length_drop, ← Lib.size_eq, List.length_cons] at this
      rw [List.length_take]; omega
    rw [h3, h4] at h2
    have hall : ∀ x ∈ signs, ∀ (c : UInt8) (t : List UInt8), x = c :: t → (c = 40 ∨ c = 41 → t = []) ∧ (c = 46 → t = [] ∨ t.head? = some 46) := by
      intro x hx
      have : ∀ x ∈ signs, (match x with | [] => true | c :: t => (if c = 40 ∨ c = 41 then decide (t = []) else true) && (if c = 46 then decide (t = []) || decide (t.head? = some 46) else true)) = true := by decide +kernel
      have hx := this x hx
      intro c t e
      subst e
      simp only [Bool.and_eq_true] at hx
      refine ⟨fun e => ?_, fun e => ?_⟩
      · have := hx.1; rw [if_pos e] at this; exact of_decide_eq_true this
      · have := hx.2; rw [if_pos e] at this
        rcases Bool.or_eq_true_iff.1 this with h | h
        · exact .inl (of_decide_eq_true h)
        · exact .inr (of_decide_eq_true h)
    have hm := hall _ (List.elem_iff.1 h2) c _ rfl
    have hne : R.take (k - 1) ≠ [] := fun e => by rw [e] at hlen; simp at hlen; omega
    rcases hc with hc | hc | ⟨hc, R', hR⟩
    · exact hne (hm.1 (.inl hc))
    · exact hne (hm.1 (.inr hc))
    · rcases hm.2 hc with e | e
      · exact hne e
      · obtain ⟨j, hj⟩ : ∃ j, k - 1 = j + 1 := ⟨k - 2, by omega⟩
        rw [hR, hj] at e
        exact absurd e (by simp)
  have h1 : sgB s q 1 := by
    refine ⟨by omega, ?_⟩
    rw [hx1]
    rcases hc with rfl | rfl | ⟨rfl, _⟩ <;> decide +kernel
  have hn : signN s q = 1 := by
    rcases signN_eq s q with h | h | h | h
    · exact absurd h.1 (no 3 (by omega))
    · exact absurd h.2.1 (no 2 (by omega))
    · exact h.2.2.2
    · exact absurd h1 h.2.2.1
  have hdt : digTest s q (c.toNat : Int) = false := by
    rcases hc with rfl | rfl | ⟨rfl, R', rfl⟩
    · simp [digTest, digR]
    · simp [digTest, digR]
    · have h5 := h.tail
      have h6 : rn s (q + 1) = (32, 1) := by rw [rn_in h5.at_.1, h5.rune (by decide) (by decide)]; rfl
      unfold digTest
      rw [h6]; decide
  have ht : thing s q = .tok 5 (q + 1) := by
    have hno : ¬ ((c.toNat : Int) = 10) ∧ ¬ blkR (c.toNat : Int) = true ∧ ¬ letR (c.toNat : Int) = true ∧ ¬ ((c.toNat : Int) = 39) ∧ ¬ ((c.toNat : Int) = 34) ∧ ¬ ((c.toNat : Int) = 96) ∧ ¬ ((c.toNat : Int) = 59) := by
      rcases hc with rfl | rfl | ⟨rfl, _⟩ <;> decide
    obtain ⟨n1, n2, n3, n4, n5, n6, n7⟩ := hno
    rw [thing_eq, hr, if_neg n1, if_neg n2, if_neg (by rw [hp]; exact Bool.noConfusion), if_neg (by rw [hp]; exact Bool.noConfusion), if_neg n3, if_neg (by rw [hdt]; exact Bool.noConfusion), if_neg n4, if_neg n5, if_neg n6, if_neg n7, hn, if_neg (by decide)]
  rw [lexT_step hq (by rw [ht]; rfl), ht]
  show lexT s (q + 1) (l ++ [(5, s.extract q (q + 1), q)]) m = _
  rw [hx1]
/-- A sign of a comment: none below a blank, none above 7E. -/
def lowC (c : UInt8) : Bool := decide (32 ≤ c.toNat) && decide (c.toNat < 127)
theorem lowC_word {c : UInt8} (h : wordC c = true) : lowC c = true := by
  have := wordC_le h
  simp [lowC]
  omega
theorem line_text {s : ByteArray} {R : List UInt8} : ∀ (w : List UInt8) (q : Nat), Rest s q (w ++ 10 :: R) → (∀ x ∈ w, lowC x = true) → lineR s q = .inr (q + w.length)
  | [], q, h, _ => by
    have h : Rest s q (10 :: R) := h
    rw [lineR, dif_pos h.at_.1, h.rune (by decide) (by decide), if_pos (by decide)]
    rfl
  | x :: w, q, h, hw => by
    have h : Rest s q (x :: (w ++ 10 :: R)) := h
    have hx := hw x List.mem_cons_self
    have hx : 32 ≤ x.toNat ∧ x.toNat < 127 := by simp [lowC] at hx; omega
    rw [lineR, dif_pos h.at_.1, h.rune (by omega) (by omega), if_neg (show ¬ ((x.toNat : Int) = 10) by omega), if_neg (show ¬ ((x.toNat : Int) < 0) by omega)]
    show lineR s (q + 1) = _
    rw [line_text w (q + 1) h.tail (fun y hy => hw y (List.mem_cons_of_mem _ hy)), List.length_cons]
    congr 1; omega
theorem go_line {s : ByteArray} {q : Nat} {w R : List UInt8} (h : Rest s q (47 :: 47 :: w ++ 10 :: R)) (hw : ∀ x ∈ w, lowC x = true) (l m : List Tk) :
    lexT s q l m = lexT s (q + (47 :: 47 :: w).length) l (m ++ [(0, ⟨(47 :: 47 :: w).toArray⟩, q)]) := by
  have hA : Rest s q (47 :: (47 :: w ++ 10 :: R)) := h
  have hr := hA.rune (by decide) (by decide)
  have hp : pre s q [47, 47] = true := by rw [hA.pre]; rfl
  have hl := line_text (s := s) (R := R) (47 :: 47 :: w) q h (fun x hx => by
    rcases List.mem_cons.1 hx with rfl | hx
    · decide
    · rcases List.mem_cons.1 hx with rfl | hx
      · decide
      · exact hw x hx)
  have ht : thing s q = .note (q + (47 :: 47 :: w).length) := by
    rw [thing_eq, hr, if_neg (by decide), if_neg (by decide), if_pos hp, hl]; rfl
  rw [lexT_step hA.at_.1 (by rw [ht]; rfl), ht]
  show lexT s (q + (47 :: 47 :: w).length) (if hasLF s q (q + (47 :: 47 :: w).length) = true then feedL l q else l) (m ++ [(0, s.extract q (q + (47 :: 47 :: w).length), q)]) = _
  rw [line_no_lf (by have := hA.at_.1; omega) hl, if_neg (by decide), h.ext]
theorem closed_text {s : ByteArray} {a : Nat} {R : List UInt8} : ∀ (w : List UInt8) (q : Nat), Rest s q (w ++ 42 :: 47 :: R) → (∀ x ∈ w, lowC x = true ∧ x ≠ 42) → closedR s [42, 47] a q = .inr (q + w.length + 2)
  | [], q, h, _ => by
    have h : Rest s q (42 :: 47 :: R) := h
    rw [closedR, dif_pos h.at_.1, h.rune (by decide) (by decide), if_neg (by decide), if_pos (by rw [h.pre]; rfl)]
    rfl
  | x :: w, q, h, hw => by
    have h : Rest s q (x :: (w ++ 42 :: 47 :: R)) := h
    obtain ⟨hx, hx2⟩ := hw x List.mem_cons_self
    have hx : 32 ≤ x.toNat ∧ x.toNat < 127 := by simp [lowC] at hx; omega
    have hp : pre s q [42, 47] = false := by
      rw [h.pre]
      simp [Lib.hasPrefix, List.isPrefixOf]
      intro e; exact absurd e.symm hx2
    rw [closedR, dif_pos h.at_.1, h.rune (by omega) (by omega), if_neg (show ¬ ((x.toNat : Int) < 0) by omega), if_neg (by rw [hp]; exact Bool.noConfusion)]
    show closedR s [42, 47] a (q + 1) = _
    rw [closed_text w (q + 1) h.tail (fun y hy => hw y (List.mem_cons_of_mem _ hy)), List.length_cons]
    congr 1; omega
theorem go_closed {s : ByteArray} {q : Nat} {w R : List UInt8} (h : Rest s q (47 :: 42 :: w ++ 42 :: 47 :: R)) (hw : ∀ x ∈ w, lowC x = true ∧ x ≠ 42) (l m : List Tk) :
    lexT s q l m = lexT s (q + (w.length + 4)) l (m ++ [(0, ⟨(47 :: 42 :: w ++ [42, 47]).toArray⟩, q)]) := by
  have hA : Rest s q (47 :: (42 :: w ++ 42 :: 47 :: R)) := h
  have hr := hA.rune (by decide) (by decide)
  have hp0 : pre s q [47, 47] = false := by rw [hA.pre]; rfl
  have hp : pre s q [47, 42] = true := by rw [hA.pre]; rfl
  have hl := closed_text (s := s) (a := q) (R := R) w (q + 2) hA.tail.tail hw
  have ht : thing s q = .note (q + (w.length + 4)) := by
    rw [thing_eq, hr, if_neg (by decide), if_neg (by decide), if_neg (by rw [hp0]; exact Bool.noConfusion), if_pos hp, hl]
    show Th.note (q + 2 + w.length + 2) = _
    congr 1; omega
  have h2 : Rest s q ((47 :: 42 :: w ++ [42, 47]) ++ R) := by simpa using h
  have h3 := h2.ext
  rw [show (47 :: 42 :: w ++ [42, 47] : List UInt8).length = w.length + 4 by simp] at h3
  have hnl : hasLF s q (q + (w.length + 4)) = false := by
    unfold hasLF
    rw [Nat.add_sub_cancel_left]
    apply Bool.eq_false_iff.2
    intro hh
    obtain ⟨k, hk, hk2⟩ := List.any_eq_true.1 hh
    have hk := List.mem_range.1 hk
    have hk2 := of_decide_eq_true hk2
    have hlen : (47 :: 42 :: w ++ [42, 47] : List UInt8).length = w.length + 4 := by simp
    have hb : (s.data.toList.drop q)[k]? = (47 :: 42 :: w ++ [42, 47] : List UInt8)[k]? := by
      rw [h2.2, List.getElem?_append_left (by omega)]
    have hqs : q + k < s.size := by
      have := (h2.app).1
      rw [hlen] at this; omega
    rw [List.getElem?_drop, byt_list hqs] at hb
    have hmem := List.mem_of_getElem? hb.symm
    have hv : (s.get! (q + k)).toNat = 10 := hk2
    have key : ∀ x ∈ (47 :: 42 :: w ++ [42, 47] : List UInt8), x.toNat ≠ 10 := fun x hx => by
      rcases List.mem_append.1 hx with hx | hx
      · rcases List.mem_cons.1 hx with rfl | hx
        · decide
        · rcases List.mem_cons.1 hx with rfl | hx
          · decide
          · have := (hw x hx).1; simp [lowC] at this; omega
      · simp at hx
        rcases hx with rfl | rfl <;> decide
    exact key _ hmem hv
  rw [lexT_step hA.at_.1 (by rw [ht]; rfl), ht]
  show lexT s (q + (w.length + 4)) (if hasLF s q (q + (w.length + 4)) = true then feedL l q else l) (m ++ [(0, s.extract q (q + (w.length + 4)), q)]) = _
  rw [hnl, if_neg (by decide), h3]
theorem feed_on {l : List Tk} {t : Tk} (h : endsB t = true) (q : Nat) : feedL (l ++ [t]) q = l ++ [t, (6, ⟨#[]⟩, q)] := by
  unfold feedL
  rw [List.getLast?_concat]
  show (if endsB t = true then _ else _) = _
  rw [if_pos h, List.append_assoc]; rfl
theorem feed_off {l : List Tk} {t : Tk} (h : endsB t = false) (q : Nat) : feedL (l ++ [t]) q = l ++ [t] := by
  unfold feedL
  rw [List.getLast?_concat]
  show (if endsB t = true then _ else _) = _
  rw [if_neg (by rw [h]; exact Bool.noConfusion)]
end Go.Proofs.YtejogobhnbjpdaaDoor
