/- Plain: a path's last part; what stands under a directory; texts joined. -/
import Derived.Test.YtdhaanaenklleaaDoorMa
import Derived.Test.YtdhaanaenklleaaDoorWc
import Derived.Lib.LastIndexByte
import Derived.Lib.Join
namespace Go.Proofs.YtdhaanaenklleaaDoor
set_option linter.unusedVariables false

theorem app_size (a b : ByteArray) : (a ++ b).size = a.size + b.size := by
  rw [← ba_len, ba_append, List.length_append, ba_len, ba_len]
theorem app_assoc (a b c : ByteArray) : a ++ b ++ c = a ++ (b ++ c) := by
  apply ba_ext; simp only [ba_append, List.append_assoc]
theorem cut_app (a b : ByteArray) (hb : (47 : UInt8) ∉ b.data.toList) : cutB 47 (a ++ ⟨#[47]⟩ ++ b) = cutB 47 a ++ [b] := by
  unfold cutB
  have e : (a ++ ⟨#[47]⟩ ++ b).data.toList = a.data.toList ++ (47 : UInt8) :: b.data.toList := by
    rw [ba_append, ba_append]; simp
  rw [e, cuts_append, cuts_none 47 b.data.toList [] hb]
  simp [mkB_data]
theorem cut_none (b : ByteArray) (hb : (47 : UInt8) ∉ b.data.toList) : cutB 47 b = [b] := by
  unfold cutB
  rw [cuts_none 47 _ [] hb]; simp [mkB_data]
theorem cut_two (a b : ByteArray) : cutB 47 (a ++ ⟨#[47]⟩ ++ b) = cutB 47 a ++ cutB 47 b := by
  unfold cutB
  have e : (a ++ ⟨#[47]⟩ ++ b).data.toList = a.data.toList ++ (47 : UInt8) :: b.data.toList := by
    rw [ba_append, ba_append]; simp
  rw [e, cuts_append, List.map_append]

def lastB (p : ByteArray) : Int := Lib.lastIndexByte p 47
theorem byte_at (s : ByteArray) (j : Nat) (h : j < s.size) : s.data[j]! = s[j] := by
  exact getElem!_pos s.data j h
theorem not_mem_of (s : ByteArray) (f : Nat) (h : ∀ j, f ≤ j → j < s.size → ((s.data[j]!).toNat : Int) ≠ 47) : (47 : UInt8) ∉ s.data.toList.drop f := by
  intro hm
  obtain ⟨k, hk, he⟩ := List.getElem_of_mem hm
  rw [List.length_drop, ba_len] at hk
  rw [List.getElem_drop] at he
  have h1 := h (f + k) (by omega) (by omega)
  rw [byte_at s (f + k) (by omega)] at h1
  apply h1
  have e : s[f + k]'(by omega) = 47 := he
  rw [e]; rfl
theorem last_cases (p : ByteArray) : (lastB p = -1 ∧ (47 : UInt8) ∉ p.data.toList) ∨ ∃ a b, p = a ++ ⟨#[47]⟩ ++ b ∧ (47 : UInt8) ∉ b.data.toList ∧ lastB p = a.size := by
  rcases Lib.lastIdx_spec p 47 p.size with ⟨h1, h2⟩ | ⟨i, hi, h1, h2, h3⟩
  · left
    exact ⟨h1, by simpa using not_mem_of p 0 (fun j _ hj => h2 j hj)⟩
  · right
    have hil : i < p.data.toList.length := by rw [ba_len]; exact hi
    refine ⟨mkB (p.data.toList.take i), mkB (p.data.toList.drop (i + 1)), ?_, ?_, ?_⟩
    · apply ba_ext
      rw [ba_append, ba_append, mkB_toList, mkB_toList]
      have e : p.data.toList[i]'hil = 47 := by
        have h4 : p[i]'hi = 47 := UInt8.toNat_inj.1 (by rw [byte_at p i hi] at h2; show _ = 47; omega)
        exact h4
      rw [show (⟨#[47]⟩ : ByteArray).data.toList = [p.data.toList[i]'hil] by rw [e]]
      rw [List.append_assoc, List.singleton_append, List.getElem_cons_drop, List.take_append_drop]
    · rw [mkB_toList]
      exact not_mem_of p (i + 1) (fun j hj hjs => h3 j (by omega) hjs)
    · rw [mkB_size, List.length_take]
      rw [show lastB p = (i : Int) from h1]
      omega
def dirB (p : ByteArray) : ByteArray := p.extract 0 (lastB p).toNat
def baseB (p : ByteArray) : ByteArray := p.extract (lastB p + 1).toNat p.size
theorem dir_none {p : ByteArray} (h : lastB p = -1) : dirB p = ⟨#[]⟩ := by
  unfold dirB; rw [h]
  apply ba_ext; rw [Lib.extract_data]; simp
theorem base_none {p : ByteArray} (h : lastB p = -1) : baseB p = p := by
  unfold baseB; rw [h]
  apply ba_ext; rw [Lib.extract_data]
  rw [show ((-1 : Int) + 1).toNat = 0 from rfl, List.drop_zero, List.take_of_length_le (by rw [ba_len]; omega)]
theorem dir_some {p a b : ByteArray} (hp : p = a ++ ⟨#[47]⟩ ++ b) (h : lastB p = a.size) : dirB p = a := by
  unfold dirB; rw [h]
  apply ba_ext; rw [Lib.extract_data, hp, ba_append, ba_append]
  rw [Int.toNat_natCast, List.drop_zero, Nat.sub_zero, List.append_assoc, ← ba_len a, List.take_left]
theorem base_some {p a b : ByteArray} (hp : p = a ++ ⟨#[47]⟩ ++ b) (h : lastB p = a.size) : baseB p = b := by
  unfold baseB; rw [h]
  apply ba_ext; rw [Lib.extract_data, hp]
  have h1 : (a ++ ⟨#[47]⟩ ++ b).data.toList = (a ++ ⟨#[47]⟩).data.toList ++ b.data.toList := ba_append _ _
  have h2 : ((a.size : Int) + 1).toNat = (a ++ (⟨#[47]⟩ : ByteArray)).data.toList.length := by
    rw [ba_len, app_size]; show _ = a.size + 1; omega
  rw [h1, h2, List.drop_left, List.take_of_length_le]
  rw [ba_len, ba_len, app_size (a ++ ⟨#[47]⟩) b]; omega
theorem base_last (p : ByteArray) : (cutB 47 p).getD ((cutB 47 p).length - 1) ByteArray.empty = baseB p := by
  rcases last_cases p with ⟨h1, h2⟩ | ⟨a, b, hp, hb, hl⟩
  · rw [base_none h1, cut_none p h2]; rfl
  · rw [base_some hp hl, hp, cut_app a b hb]
    simp [List.getD]

theorem join_snoc (xs : List (List UInt8)) (x : List UInt8) (h : xs ≠ []) : Lib.join (xs ++ [x]) [47] = Lib.join xs [47] ++ 47 :: x := by
  unfold Lib.join
  induction xs with
  | nil => exact absurd rfl h
  | cons a r ih =>
    cases r with
    | nil => simp [List.intercalate, List.intersperse]
    | cons b r' =>
      have := ih (by simp)
      simp only [List.intercalate, List.cons_append, List.intersperse, List.flatten_cons] at this ⊢
      rw [this]
      simp
def joinB (ss : List ByteArray) : ByteArray := mkB (Lib.join (ss.map (·.data.toList)) [47])
theorem joinB_snoc (ss : List ByteArray) (x : ByteArray) (h : ss ≠ []) : joinB (ss ++ [x]) = joinB ss ++ ⟨#[47]⟩ ++ x := by
  unfold joinB
  rw [List.map_append, List.map_singleton, join_snoc _ _ (by simpa using h)]
  apply ba_ext
  rw [ba_append, ba_append, mkB_toList, mkB_toList]
  simp
theorem joinB_one (x : ByteArray) : joinB [x] = x := by
  unfold joinB Lib.join
  simp [List.intercalate, mkB_data]
theorem joinB_nil : joinB [] = ⟨#[]⟩ := rfl
/-- Those that have bytes, joined. -/
def joinS (ss : List ByteArray) : ByteArray := joinB (ss.filter some1)
theorem joinB_size (ss : List ByteArray) : (joinB ss).size ≤ cnt ss := by
  obtain ⟨n, hn⟩ : ∃ n, n = ss.length := ⟨_, rfl⟩
  induction n generalizing ss with
  | zero =>
    have : ss = [] := List.eq_nil_of_length_eq_zero hn.symm
    subst this
    exact Nat.zero_le _
  | succ n ih =>
    have hne : ss ≠ [] := by intro e; subst e; simp at hn
    obtain ⟨l, x, rfl⟩ : ∃ l x, ss = l ++ [x] := ⟨_, _, (List.dropLast_concat_getLast hne).symm⟩
    have hl : n = l.length := by simpa using hn
    have h1 := ih l hl
    rw [cnt_append]
    show _ ≤ cnt l + (x.size + 1 + 0)
    by_cases h : l = []
    · subst h; rw [List.nil_append, joinB_one]; omega
    · rw [joinB_snoc l x h, app_size, app_size]
      have : (⟨#[47]⟩ : ByteArray).size = 1 := rfl
      omega
theorem cnt_filter (ss : List ByteArray) : cnt (ss.filter some1) ≤ cnt ss := by
  induction ss with
  | nil => simp
  | cons a r ih =>
    rw [List.filter_cons]
    split
    · simp only [cnt]; omega
    · simp only [cnt]; omega
theorem some1_app (a b : ByteArray) (h : some1 b = true) : some1 (a ++ b) = true := by
  unfold some1 at h ⊢
  rw [app_size]
  have : b.size ≠ 0 := by intro e; rw [e] at h; cases h
  have h2 : a.size + b.size ≠ 0 := by omega
  rw [beq_false_of_ne h2]; rfl
theorem joinS_some (ss : List ByteArray) : some1 (joinS ss) = !((ss.filter some1).isEmpty) := by
  unfold joinS
  have hall : ∀ x ∈ ss.filter some1, some1 x = true := fun x hx => (List.mem_filter.1 hx).2
  generalize ss.filter some1 = l at *
  cases hl : l with
  | nil => rfl
  | cons a r =>
    have hne : l ≠ [] := by rw [hl]; simp
    rw [← hl]
    obtain ⟨l', x, e⟩ : ∃ l' x, l = l' ++ [x] := ⟨_, _, (List.dropLast_concat_getLast hne).symm⟩
    have hx := hall x (by rw [e]; simp)
    have h1 : some1 (joinB l) = true := by
      rw [e]
      by_cases h : l' = []
      · subst h; rw [List.nil_append, joinB_one]; exact hx
      · rw [joinB_snoc l' x h]; exact some1_app _ _ hx
    rw [h1, hl]; rfl
theorem joinS_step (ss : List ByteArray) (x : ByteArray) : joinS (ss ++ [x]) = if some1 x then (if some1 (joinS ss) then joinS ss ++ ⟨#[47]⟩ ++ x else x) else joinS ss := by
  have hs := joinS_some ss
  unfold joinS at hs ⊢
  rw [List.filter_append]
  by_cases hx : some1 x = true
  · rw [if_pos hx, show [x].filter some1 = [x] by simp [hx]]
    by_cases h : ss.filter some1 = []
    · rw [h] at hs ⊢
      rw [if_neg (by rw [hs]; simp), List.nil_append, joinB_one]
    · have h2 : (ss.filter some1).isEmpty = false := by
        cases he : (ss.filter some1).isEmpty with
        | false => rfl
        | true => exact absurd (List.isEmpty_iff.1 he) h
      rw [if_pos (by rw [hs, h2]; rfl), joinB_snoc _ _ h]
  · rw [if_neg hx, show [x].filter some1 = [] by simp [hx], List.append_nil]

def underL (d p : List UInt8) : Option (List UInt8) :=
  if Lib.hasPrefix p d then
    if Lib.hasPrefix (p.drop d.length) [47] then
      if (p.drop d.length).drop 1 = [] then none else some ((p.drop d.length).drop 1)
    else none
  else none
def underB (d p : ByteArray) : ByteArray × Bool :=
  if some1 d then (match underL d.data.toList p.data.toList with | some q => (mkB q, true) | none => (⟨#[]⟩, false)) else (p, some1 p)
theorem prefix_iff (p d : List UInt8) : Lib.hasPrefix p d = true ↔ ∃ r, p = d ++ r := by
  unfold Lib.hasPrefix
  rw [List.isPrefixOf_iff_prefix]
  constructor
  · rintro ⟨r, h⟩; exact ⟨r, h.symm⟩
  · rintro ⟨r, h⟩; exact ⟨r, h.symm⟩
theorem underL_iff (d p q : List UInt8) : underL d p = some q ↔ p = d ++ 47 :: q ∧ q ≠ [] := by
  unfold underL
  constructor
  · intro h
    split at h
    · rename_i h1
      split at h
      · rename_i h2
        split at h
        · cases h
        · rename_i h3
          obtain ⟨r, rfl⟩ := (prefix_iff _ _).1 h1
          rw [List.drop_left] at h2 h3 h
          obtain ⟨r2, rfl⟩ := (prefix_iff _ _).1 h2
          simp at h h3
          subst h
          exact ⟨by simp, h3⟩
      · cases h
    · cases h
  · rintro ⟨rfl, hq⟩
    rw [if_pos ((prefix_iff _ _).2 ⟨_, rfl⟩), List.drop_left, if_pos ((prefix_iff (47 :: q) [47]).2 ⟨q, rfl⟩)]
    rw [show List.drop 1 (47 :: q) = q from rfl, if_neg hq]
theorem underL_none (d p : List UInt8) (h : ∀ q, q ≠ [] → p ≠ d ++ 47 :: q) : underL d p = none := by
  cases hu : underL d p with
  | none => rfl
  | some q =>
    obtain ⟨h1, h2⟩ := (underL_iff d p q).1 hu
    exact absurd h1 (h q h2)
end Go.Proofs.YtdhaanaenklleaaDoor
