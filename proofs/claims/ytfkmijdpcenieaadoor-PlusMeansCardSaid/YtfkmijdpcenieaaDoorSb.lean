/- Plain: the sizes of lines in the newer form; blanks between words. -/
import Derived.Test.YtfkmijdpcenieaaDoorSa
namespace Go.Proofs.YtfkmijdpcenieaaDoor
set_option linter.unusedVariables false

theorem join_sharp (sep : List UInt8) : ∀ l : List ByteArray, l ≠ [] → (Lib.join (l.map (·.data.toList)) sep).length + sep.length = sums l + l.length * sep.length
  | [], h => absurd rfl h
  | [x], _ => by simp [Lib.join, sums]
  | x :: y :: q, _ => by
    have ih := join_sharp sep (y :: q) (by simp)
    have e : Lib.join ((x :: y :: q).map (·.data.toList)) sep = x.data.toList ++ sep ++ Lib.join ((y :: q).map (·.data.toList)) sep := by simp [Lib.join]
    rw [e, List.length_append, List.length_append, ba_len]
    simp only [sums, List.length_cons] at ih ⊢
    rw [Nat.add_mul, Nat.one_mul]
    omega
theorem wrap_sharp (sep : ByteArray) (l : List ByteArray) (h : l ≠ []) : (wrapB sep l).size + sep.size ≤ sums l + l.length * sep.size + 2 := by
  match l with
  | [x] => simp [wrapB, sums]
  | x :: y :: r =>
    have h := join_sharp sep.data.toList (x :: y :: r) (by simp)
    rw [ba_len] at h
    show (mkB _).size + _ ≤ _
    rw [mkB_size, List.length_cons, List.length_append]
    simp only [List.length_cons, List.length_nil] at h ⊢
    omega
theorem term_one {t : ByteArray} (h : okT t = true) : 1 ≤ t.size := by
  have h' : tagB (trimB t) = true := h
  have h0 := (tag_shape h').1
  have h1 := trim_size t
  rw [← ba_len (trimB t)] at h1
  cases e : (trimB t).data.toList with
  | nil => exact absurd e h0
  | cons a r => rw [e] at h1; simp only [List.length_cons] at h1; omega
theorem sums_ge (l : List ByteArray) (h : ∀ x ∈ l, 1 ≤ x.size) : l.length ≤ sums l := by
  induction l with
  | nil => exact Nat.le_refl _
  | cons x r ih =>
    have := h x List.mem_cons_self
    have := ih (fun y hy => h y (List.mem_cons_of_mem _ hy))
    simp only [sums, List.length_cons]
    omega
theorem sums_rel (f : ByteArray → ByteArray) (a b : Nat) (l : List ByteArray) (h : ∀ x ∈ l, 2 * (f x).size ≤ a * x.size + b) : 2 * sums (l.map f) ≤ a * sums l + b * l.length := by
  induction l with
  | nil => simp [sums]
  | cons x r ih =>
    have h1 := h x List.mem_cons_self
    have h2 := ih (fun y hy => h y (List.mem_cons_of_mem _ hy))
    simp only [List.map_cons, sums, List.length_cons]
    rw [Nat.mul_add, Nat.mul_add, Nat.mul_add, Nat.mul_one]
    omega
theorem valO_sharp {o : ByteArray} (h : okO o = true) : 2 * (valO o).size ≤ 5 * o.size + 1 := by
  have h1 := wrap_sharp andS (cutB 44 o) (cutB_ne0 _ _)
  have h2 := sums_cutB 44 o
  have h3 := sums_ge (cutB 44 o) (fun x hx => term_one (List.all_eq_true.1 h x hx))
  rw [andS_size] at h1
  rw [show valO o = wrapB andS (cutB 44 o) by unfold valO; rw [show (cutB 44 o).map idB = cutB 44 o from List.map_id' _]]
  omega
theorem sums_wF2 : ∀ (l cur : List UInt8), sums ((wF l cur).map mkB) + (wF l cur).length ≤ cur.length + l.length + 1
  | [], cur => by
    rw [wF_nil]
    cases cur with
    | nil => simp [flush_nil, sums]
    | cons a q => rw [flush_ne (by simp)]; simp [sums, mkB_size]
  | b :: r, cur => by
    cases hb : blank b with
    | true =>
      rw [wF_yes hb]
      have h2 := sums_wF2 r []
      cases cur with
      | nil => rw [flush_nil]; simp only [List.length_nil, List.length_cons] at h2 ⊢; omega
      | cons a q => rw [flush_ne (by simp)]; simp only [List.map_cons, sums, mkB_size, List.length_nil, List.length_cons] at h2 ⊢; omega
    | false =>
      rw [wF_no hb]
      have h2 := sums_wF2 r (cur ++ [b])
      simp only [List.length_append, List.length_cons, List.length_nil] at h2 ⊢
      omega
theorem wF_some : ∀ (l cur : List UInt8), ∀ x ∈ wF l cur, x ≠ []
  | [], cur, x, hx => by
    rw [wF_nil] at hx
    cases cur with
    | nil => cases hx
    | cons a q => rw [flush_ne (by simp)] at hx; simp at hx; subst hx; simp
  | b :: r, cur, x, hx => by
    cases hb : blank b with
    | true =>
      rw [wF_yes hb] at hx
      cases cur with
      | nil => exact wF_some r [] x hx
      | cons a q =>
        rw [flush_ne (by simp)] at hx
        rcases List.mem_cons.1 hx with rfl | h
        · simp
        · exact wF_some r [] x h
    | false => rw [wF_no hb] at hx; exact wF_some r _ x hx
theorem words_sharp (s : ByteArray) : sums (wordsB s) + (wordsB s).length ≤ s.size + 1 := by
  have := sums_wF2 s.data.toList []
  rw [ba_len] at this
  unfold wordsB
  rw [List.length_map]
  simpa using this
theorem words_one (s : ByteArray) : ∀ x ∈ wordsB s, 1 ≤ x.size := by
  intro x hx
  unfold wordsB at hx
  obtain ⟨y, hy, rfl⟩ := List.mem_map.1 hx
  have := wF_some _ _ y hy
  rw [mkB_size]
  cases y with
  | nil => exact absurd rfl this
  | cons a r => simp
theorem okL_parts {s : ByteArray} (h : okL s = true) : wordsB s ≠ [] ∧ ∀ o ∈ wordsB s, okO o = true := by
  unfold okL at h
  rw [Bool.and_eq_true] at h
  refine ⟨fun e => ?_, List.all_eq_true.1 h.2⟩
  rw [e] at h
  cases h.1
theorem okLs_parts {l : List ByteArray} (h : okLs l = true) : l ≠ [] ∧ ∀ o ∈ l, okL o = true := by
  unfold okLs at h
  rw [Bool.and_eq_true] at h
  refine ⟨fun e => ?_, List.all_eq_true.1 h.2⟩
  rw [e] at h
  cases h.1
theorem valL_sharp {s : ByteArray} (h : okL s = true) : 2 * (valL s).size ≤ 7 * s.size + 3 := by
  obtain ⟨h0, h4⟩ := okL_parts h
  have h1 := wrap_sharp orS ((wordsB s).map valO) (by simpa using h0)
  have h2 := words_sharp s
  have h3 := sums_ge (wordsB s) (words_one s)
  have h5 := sums_rel valO 5 1 (wordsB s) (fun x hx => valO_sharp (h4 x hx))
  rw [orS_size, List.length_map] at h1
  show 2 * (wrapB orS ((wordsB s).map valO)).size ≤ _
  omega
theorem valLs_sharp {l : List ByteArray} (h : okLs l = true) : 2 * (valLs l).size ≤ 7 * sums l + 11 * l.length := by
  obtain ⟨h0, h4⟩ := okLs_parts h
  have h1 := wrap_sharp andS (l.map valL) (by simpa using h0)
  have h5 := sums_rel valL 7 3 l (fun x hx => valL_sharp (h4 x hx))
  rw [andS_size, List.length_map] at h1
  show 2 * (wrapB andS (l.map valL)).size ≤ _
  omega

/-! ### Blanks between -/
theorem words_mid (a b : ByteArray) (c : UInt8) (hc : blank c = true) {x : ByteArray} (hx : x.data.toList = a.data.toList ++ c :: b.data.toList) : wordsB x = wordsB a ++ wordsB b := by
  unfold wordsB
  rw [hx, wF_split c hc, List.map_append]
theorem words_nil : wordsB ⟨#[]⟩ = [] := rfl
end Go.Proofs.YtfkmijdpcenieaaDoor
