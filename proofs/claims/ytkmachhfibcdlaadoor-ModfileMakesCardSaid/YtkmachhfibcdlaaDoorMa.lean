/- Plain: texts are cut at a byte. -/
import Derived.Test.YtkmachhfibcdlaaDoorBa
import Derived.Lib.Split
import Derived.Lib.Strings
namespace Go.Proofs.YtkmachhfibcdlaaDoor

theorem ba_append (a b : ByteArray) : (a ++ b).data.toList = a.data.toList ++ b.data.toList := by simp only [ByteArray.data_append, Array.toList_append]
theorem ba_len (a : ByteArray) : a.data.toList.length = a.size := (Lib.size_eq a).symm
def mkB (l : List UInt8) : ByteArray := ⟨l.toArray⟩
theorem mkB_toList (l : List UInt8) : (mkB l).data.toList = l := rfl
theorem mkB_append (a : List UInt8) (s : ByteArray) : mkB a ++ s = mkB (a ++ s.data.toList) := by
  apply ba_ext; rw [ba_append]; rfl
theorem mkB_data (s : ByteArray) : mkB s.data.toList = s := by cases s; rfl
theorem mkB_size (a : List UInt8) : (mkB a).size = a.length := by simp [mkB, ByteArray.size]
theorem mkB_inj {a b : List UInt8} (h : mkB a = mkB b) : a = b := congrArg (fun x : ByteArray => x.data.toList) h

/-- What stands between the bytes c. -/
def cuts (c : UInt8) : List UInt8 → List UInt8 → List (List UInt8)
  | cur, [] => [cur]
  | cur, x :: r => if x = c then cur :: cuts c [] r else cuts c (cur ++ [x]) r

theorem cuts_ne (c : UInt8) (l : List UInt8) : ∀ cur, cuts c cur l ≠ [] := by
  induction l with
  | nil => intro cur h; cases h
  | cons x r ih =>
    intro cur
    unfold cuts
    split
    · intro h; cases h
    · exact ih _
theorem cuts_none (c : UInt8) (l : List UInt8) : ∀ cur, c ∉ l → cuts c cur l = [cur ++ l] := by
  induction l with
  | nil => intro cur _; simp [cuts]
  | cons x r ih =>
    intro cur h
    simp only [List.mem_cons, not_or] at h
    unfold cuts
    rw [if_neg (fun e => h.1 e.symm), ih _ h.2]
    simp
theorem cuts_at (c : UInt8) (p r : List UInt8) : ∀ cur, c ∉ p → cuts c cur (p ++ c :: r) = (cur ++ p) :: cuts c [] r := by
  induction p with
  | nil => intro cur _; simp [cuts]
  | cons x q ih =>
    intro cur h
    simp only [List.mem_cons, not_or] at h
    rw [List.cons_append, cuts, if_neg (fun e => h.1 e.symm), ih _ h.2]
    simp
theorem cuts_cons (c : UInt8) (cur : List UInt8) (x : UInt8) (r : List UInt8) : cuts c cur (x :: r) = if x = c then cur :: cuts c [] r else cuts c (cur ++ [x]) r := rfl
theorem cuts_append (c : UInt8) (a b : List UInt8) : ∀ cur, cuts c cur (a ++ c :: b) = cuts c cur a ++ cuts c [] b := by
  induction a with
  | nil => intro cur; simp [cuts]
  | cons x r ih =>
    intro cur
    rw [List.cons_append, cuts_cons, cuts_cons]
    by_cases h : x = c
    · rw [if_pos h, if_pos h, ih]; rfl
    · rw [if_neg h, if_neg h, ih]
theorem cuts_len (c : UInt8) (l : List UInt8) : ∀ cur, (cuts c cur l).length ≤ l.length + 1 := by
  induction l with
  | nil => intro cur; simp [cuts]
  | cons x r ih =>
    intro cur
    unfold cuts
    split
    · have := ih []; simp only [List.length_cons]; omega
    · have := ih (cur ++ [x]); simp only [List.length_cons]; omega
theorem cuts_each (c : UInt8) (l : List UInt8) : ∀ cur, ∀ p ∈ cuts c cur l, p.length ≤ cur.length + l.length := by
  induction l with
  | nil => intro cur p h; simp [cuts] at h; subst h; simp
  | cons x r ih =>
    intro cur p h
    unfold cuts at h
    split at h
    · rcases List.mem_cons.1 h with rfl | h
      · omega
      · have := ih [] p h; simp only [List.length_cons]; simp at this; omega
    · have := ih (cur ++ [x]) p h; simp only [List.length_cons]; simp at this; omega
theorem cuts_free (c : UInt8) (l : List UInt8) : ∀ cur, c ∉ cur → ∀ p ∈ cuts c cur l, c ∉ p := by
  induction l with
  | nil => intro cur hc p h; simp [cuts] at h; subst h; exact hc
  | cons x r ih =>
    intro cur hc p h
    unfold cuts at h
    split at h
    · rcases List.mem_cons.1 h with rfl | h
      · exact hc
      · exact ih [] (by simp) p h
    · rename_i hx
      exact ih _ (by simp only [List.mem_append, List.mem_singleton, not_or]; exact ⟨hc, fun e => hx e.symm⟩) p h

/-- The pieces of a text. -/
def cutB (c : UInt8) (s : ByteArray) : List ByteArray := (cuts c [] s.data.toList).map mkB

theorem occ_one (l : List UInt8) (c : UInt8) (j : Nat) : Lib.occAt l [c] j = true ↔ l[j]? = some c := by
  unfold Lib.occAt
  rw [← List.head?_drop]
  cases h : l.drop j with
  | nil => simp
  | cons x r =>
    show ((c == x) && true) = true ↔ some x = some c
    rw [Bool.and_true, beq_iff_eq, Option.some.injEq]
    exact eq_comm

theorem split_cuts (c : UInt8) : ∀ (n : Nat) (l : List UInt8), l.length ≤ n → Lib.splitK [c] 0 (Lib.count l [c]) l = cuts c [] l := by
  intro n
  induction n with
  | zero =>
    intro l h
    have : l = [] := List.eq_nil_of_length_eq_zero (by omega)
    subst this
    rfl
  | succ n ih =>
    intro l h
    rcases Lib.index_spec l [c] with ⟨hi, hno⟩ | ⟨i, hi, hil, hocc, hno⟩
    · rw [Lib.count_miss hi]
      have hc : c ∉ l := by
        intro hm
        obtain ⟨j, hj, he⟩ := List.getElem_of_mem hm
        have := hno j (by omega)
        have h2 := (occ_one l c j).2 (by rw [List.getElem?_eq_getElem hj, he])
        rw [h2] at this; cases this
      rw [cuts_none c l [] hc]
      rfl
    · have hoc := (occ_one l c i).1 hocc
      have hlt : i < l.length := (List.getElem?_eq_some_iff.1 hoc).1
      have hget : l[i] = c := (List.getElem?_eq_some_iff.1 hoc).2
      rw [Lib.count_hit (by simp) hi, Nat.add_comm 1]
      have hsk : Lib.splitK [c] 0 (Lib.count (l.drop (i + [c].length)) [c] + 1) l = l.take i :: Lib.splitK [c] 0 (Lib.count (l.drop (i + [c].length)) [c]) (l.drop (i + 1)) := by
        rw [Lib.splitK, if_neg (by rw [hi]; simp), hi]
        simp
      rw [List.length_singleton] at hsk ⊢
      rw [hsk, ih _ (by rw [List.length_drop]; omega)]
      have hnc : c ∉ l.take i := by
        intro hm
        obtain ⟨j, hj, he⟩ := List.getElem_of_mem hm
        rw [List.length_take] at hj
        rw [List.getElem_take] at he
        have := hno j (by omega)
        have h2 := (occ_one l c j).2 (by rw [List.getElem?_eq_getElem (by omega), he])
        rw [h2] at this; cases this
      have e : l = l.take i ++ c :: l.drop (i + 1) := by
        rw [← hget, List.getElem_cons_drop, List.take_append_drop]
      conv => rhs; rw [e, cuts_at c _ _ [] hnc]
      simp

theorem splitB_cut (c : UInt8) (s : ByteArray) : Lib.splitB (mkB [c]) 0 (Lib.countB s (mkB [c])) s = cutB c s := by
  have h := Lib.splitB_data (mkB [c]) 0 (Lib.countB s (mkB [c])) s
  rw [mkB_toList, show Lib.countB s (mkB [c]) = Lib.count s.data.toList [c] from rfl, split_cuts c _ _ (Nat.le_refl _)] at h
  unfold cutB
  rw [← h, List.map_map]
  have : (mkB ∘ fun x : ByteArray => x.data.toList) = id := by funext x; exact mkB_data x
  rw [this, List.map_id]
  rfl
theorem cutB_len (c : UInt8) (s : ByteArray) : (cutB c s).length = Lib.countB s (mkB [c]) + 1 := by
  rw [← splitB_cut]
  have h := Lib.splitB_data (mkB [c]) 0 (Lib.countB s (mkB [c])) s
  have hk : ∀ (n : Nat) (l : List UInt8), l.length ≤ n → (Lib.splitK [c] 0 (Lib.count l [c]) l).length = Lib.count l [c] + 1 := by
    intro n
    induction n with
    | zero =>
      intro l h
      have : l = [] := List.eq_nil_of_length_eq_zero (by omega)
      subst this
      rfl
    | succ n ih =>
      intro l h
      rcases Lib.index_spec l [c] with ⟨hi, hno⟩ | ⟨i, hi, hil, hocc, hno⟩
      · rw [Lib.count_miss hi]; rfl
      · have hoc := (occ_one l c i).1 hocc
        have hlt : i < l.length := (List.getElem?_eq_some_iff.1 hoc).1
        rw [Lib.count_hit (by simp) hi, Nat.add_comm 1, Lib.splitK, if_neg (by rw [hi]; simp), hi]
        have := ih (l.drop (i + 1)) (by simp; omega)
        simp at this ⊢
        omega
  have := congrArg List.length h
  rw [List.length_map, mkB_toList] at this
  rw [this]
  exact hk _ _ (Nat.le_refl _)
end Go.Proofs.YtkmachhfibcdlaaDoor
