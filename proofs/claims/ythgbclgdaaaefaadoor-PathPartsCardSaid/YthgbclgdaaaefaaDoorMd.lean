/- Plain: good paths, joined and cut; the way from a directory. -/
import Derived.Test.YthgbclgdaaaefaaDoorWk
namespace Go.Proofs.YthgbclgdaaaefaaDoor
set_option linter.unusedVariables false

theorem join_cut (p : ByteArray) : joinB (cutB 47 p) = p := by
  obtain ⟨n, hn⟩ : ∃ n, p.size ≤ n := ⟨_, Nat.le_refl _⟩
  induction n generalizing p with
  | zero =>
    rcases last_cases p with ⟨h1, h2⟩ | ⟨a, b, hp, hb, hl⟩
    · rw [cut_none p h2, joinB_one]
    · have : p.size = a.size + 1 + b.size := by rw [hp, app_size, app_size]; rfl
      omega
  | succ n ih =>
    rcases last_cases p with ⟨h1, h2⟩ | ⟨a, b, hp, hb, hl⟩
    · rw [cut_none p h2, joinB_one]
    · have : p.size = a.size + 1 + b.size := by rw [hp, app_size, app_size]; rfl
      have hne : cutB 47 a ≠ [] := by
        intro e; have := cutB_ne 47 a; rw [e] at this; simp at this
      rw [hp, cut_app a b hb, joinB_snoc _ _ hne, ih a (by omega)]
theorem filter_all {L : List ByteArray} (h : ∀ x ∈ L, some1 x = true) : L.filter some1 = L := List.filter_eq_self.2 h
theorem joinS_all {L : List ByteArray} (h : ∀ x ∈ L, some1 x = true) : joinS L = joinB L := by unfold joinS; rw [filter_all h]
theorem part_some {x : ByteArray} (h : partB x = true) : some1 x = true := by
  unfold partB dotB at h
  simp only [Bool.and_eq_true] at h
  exact h.2.1.1
theorem good_all {p : ByteArray} (h : goodB p = true) : ∀ x ∈ cutB 47 p, partB x = true := by
  unfold goodB at h
  rw [Bool.and_eq_true] at h
  exact fun x hx => List.all_eq_true.1 h.2 x hx
theorem good_some {p : ByteArray} (h : goodB p = true) : some1 p = true := by
  cases hs : some1 p with
  | true => rfl
  | false => rw [empty_of p hs, good_empty] at h; cases h
theorem good_split {p : ByteArray} (h : goodB p = true) : splitL p = cutB 47 p := by unfold splitL; rw [good_some h]; rfl
theorem good_join {p : ByteArray} (h : goodB p = true) : joinS (splitL p) = p := by
  rw [good_split h, joinS_all (fun x hx => part_some (good_all h x hx)), join_cut]

def jn (a b : ByteArray) : ByteArray := joinS [a, b]
theorem jn_two {a b : ByteArray} (ha : some1 a = true) (hb : some1 b = true) : jn a b = a ++ ⟨#[47]⟩ ++ b := by
  unfold jn
  rw [joinS_all (by intro x hx; simp at hx; rcases hx with rfl | rfl <;> assumption)]
  have := joinB_snoc [a] b (by simp)
  rw [joinB_one] at this
  exact this
theorem jn_right {a b : ByteArray} (ha : some1 a = false) (hb : some1 b = true) : jn a b = b := by
  unfold jn joinS
  rw [show [a, b].filter some1 = [b] by simp [ha, hb], joinB_one]
theorem jn_size (a b : ByteArray) : (jn a b).size ≤ a.size + b.size + 2 := by
  have := joinS_size [a, b]
  simp only [cnt] at this
  show (joinS [a, b]).size ≤ _
  omega

theorem good_ends {a b : ByteArray} (hb : (47 : UInt8) ∉ b.data.toList) (h : goodB (a ++ ⟨#[47]⟩ ++ b) = true) : some1 a = true ∧ some1 b = true := by
  have hall := good_all h
  rw [cut_app a b hb] at hall
  refine ⟨?_, part_some (hall b (by simp))⟩
  cases hs : some1 a with
  | true => rfl
  | false =>
    have e := empty_of a hs
    have hm : (⟨#[]⟩ : ByteArray) ∈ cutB 47 a ++ [b] := by rw [e, cut_none ⟨#[]⟩ (by simp)]; simp
    have := part_some (hall _ hm)
    exact absurd this (by decide)
theorem jn_dir {p : ByteArray} (h : goodB p = true) : jn (dirB p) (baseB p) = p := by
  rcases last_cases p with ⟨h1, h2⟩ | ⟨a, b, hp, hb, hl⟩
  · rw [dir_none h1, base_none h1]
    exact jn_right rfl (good_some h)
  · rw [dir_some hp hl, base_some hp hl]
    rw [hp] at h
    obtain ⟨ha, hb2⟩ := good_ends hb h
    rw [jn_two ha hb2, hp]
theorem under_two (a q : ByteArray) (ha : some1 a = true) (hq : some1 q = true) : underB a (a ++ ⟨#[47]⟩ ++ q) = (q, true) := by
  unfold underB
  rw [if_pos ha]
  have hne : q.data.toList ≠ [] := by
    intro e
    have h0 : q.size = 0 := by rw [← ba_len, e]; rfl
    unfold some1 at hq; rw [h0] at hq; cases hq
  have : underL a.data.toList (a ++ ⟨#[47]⟩ ++ q).data.toList = some q.data.toList := (underL_iff _ _ _).2 ⟨by rw [ba_append, ba_append]; simp, hne⟩
  rw [this]
  show (mkB _, true) = _
  rw [mkB_data]
theorem under_empty (a p : ByteArray) (ha : some1 a = false) : underB a p = (p, some1 p) := by
  unfold underB; rw [ha]; rfl
theorem under_spec {a p r : ByteArray} (h : underB a p = (r, true)) (hp : some1 p = true) : jn a r = p := by
  cases ha : some1 a with
  | false =>
    rw [under_empty a p ha] at h
    obtain ⟨rfl, _⟩ := Prod.mk.inj h
    exact jn_right ha hp
  | true =>
    unfold underB at h
    rw [if_pos ha] at h
    cases hu : underL a.data.toList p.data.toList with
    | none => rw [hu] at h; cases h
    | some q =>
      rw [hu] at h
      cases h
      obtain ⟨h1, h2⟩ := (underL_iff _ _ _).1 hu
      have hq : some1 (mkB q) = true := by
        unfold some1
        rw [mkB_size, beq_false_of_ne (by intro e; exact h2 (List.eq_nil_of_length_eq_zero e))]; rfl
      rw [jn_two ha hq]
      apply ba_ext
      rw [ba_append, ba_append, h1, mkB_toList]; simp
theorem under_dir {p : ByteArray} (h : goodB p = true) : underB (dirB p) p = (baseB p, true) := by
  rcases last_cases p with ⟨h1, h2⟩ | ⟨a, b, hp, hb, hl⟩
  · rw [dir_none h1, base_none h1, under_empty _ _ rfl, good_some h]
  · rw [dir_some hp hl, base_some hp hl]
    have h' := h
    rw [hp] at h'
    obtain ⟨ha, hb2⟩ := good_ends hb h'
    rw [hp]
    exact under_two a b ha hb2
theorem under_self (a : ByteArray) (ha : some1 a = true) : (underB a a).2 = false := by
  unfold underB
  rw [if_pos ha]
  have : underL a.data.toList a.data.toList = none := by
    apply underL_none
    intro q hq e
    have := congrArg List.length e
    simp at this
  rw [this]

theorem split_inj {a b : ByteArray} (h : splitL a = splitL b) : a = b := by
  have hs : ∀ x : ByteArray, splitL x = [] → x = ⟨#[]⟩ := by
    intro x hx
    unfold splitL at hx
    split at hx
    · have := cutB_ne 47 x; rw [hx] at this; simp at this
    · rename_i h; exact empty_of x (by simpa using h)
  have hj : ∀ x : ByteArray, joinB (splitL x) = x := by
    intro x
    unfold splitL
    split
    · exact join_cut x
    · rename_i h; rw [empty_of x (by simpa using h)]; rfl
  rw [← hj a, ← hj b, h]

/-- A way of parts only. -/
theorem walk_parts (ws : List ByteArray) (h : ∀ x ∈ ws, partB x = true ∧ badB x = false) : ∀ cur, walkL cur ws = some (cur ++ ws) := by
  induction ws with
  | nil => intro cur; simp [walkL]
  | cons x r ih =>
    intro cur
    have hx := h x (by simp)
    have hd : dotB x = true := by have := hx.1; unfold partB at this; simp only [Bool.and_eq_true] at this; exact this.2
    have hd' := hd
    unfold dotB at hd'
    simp only [Bool.and_eq_true, Bool.not_eq_true'] at hd'
    have hst : stepL cur x = some (cur ++ [x]) := by
      unfold stepL
      rw [hd'.1.1, hd'.1.2, hd'.2, hx.2]; rfl
    show (match stepL cur x with | none => none | some c => walkL c r) = _
    rw [hst]
    show walkL (cur ++ [x]) r = _
    rw [ih (fun y hy => h y (by simp [hy])) (cur ++ [x])]
    simp
/-- Where all of it has bytes. -/
theorem walk_some (ws : List ByteArray) : ∀ cur l, (∀ x ∈ cur, some1 x = true) → walkL cur ws = some l → ∀ x ∈ l, some1 x = true := by
  induction ws with
  | nil => intro cur l h hw; simp only [walkL, Option.some.injEq] at hw; subst hw; exact h
  | cons x r ih =>
    intro cur l h hw
    have hw' : (match stepL cur x with | none => none | some c => walkL c r) = some l := hw
    cases hst : stepL cur x with
    | none => rw [hst] at hw'; cases hw'
    | some c =>
      rw [hst] at hw'
      refine ih c l ?_ hw'
      unfold stepL at hst
      split at hst
      · simp only [Option.some.injEq] at hst; subst hst; exact h
      · rename_i hx
        split at hst
        · split at hst
          · cases hst
          · simp only [Option.some.injEq] at hst; subst hst
            exact fun y hy => h y (List.dropLast_subset _ hy)
        · split at hst
          · cases hst
          · simp only [Option.some.injEq] at hst; subst hst
            intro y hy
            rcases List.mem_append.1 hy with hy | hy
            · exact h y hy
            · simp at hy; subst hy
              simp only [Bool.or_eq_true, Bool.not_eq_true', not_or] at hx
              simpa using hx.1
theorem dir_parts {d : ByteArray} (h : some1 d = false ∨ goodB d = true) : ∀ x ∈ splitL d, some1 x = true := by
  rcases h with h | h
  · unfold splitL; rw [h]; intro x hx; simp at hx
  · rw [good_split h]; exact fun x hx => part_some (good_all h x hx)
theorem fromP_some {d y : ByteArray} {l : List ByteArray} (hw : walkL (splitL d) (cutB 47 y) = some l) : fromP d y = if some1 (joinB l) && !(goodB (joinB l)) then (⟨#[]⟩, false) else (joinB l, true) := by
  unfold fromP; rw [hw]
theorem fromR_some {d y : ByteArray} {l : List ByteArray} (hw : walkL (splitL d) (cutB 47 y) = some l) : fromR d y = (joinS l, !(some1 (joinS l)) || goodB (joinS l)) := by
  unfold fromR; rw [hw]
theorem from_same {d y : ByteArray} (h : some1 d = false ∨ goodB d = true) : (fromP d y).2 = (fromR d y).2 ∧ ((fromP d y).2 = true → (fromP d y).1 = (fromR d y).1) := by
  have hs := dir_parts h
  cases hw : walkL (splitL d) (cutB 47 y) with
  | none => unfold fromP fromR; rw [hw]; exact ⟨rfl, fun h => by cases h⟩
  | some l =>
    have hl := walk_some _ _ _ hs hw
    rw [fromP_some hw, fromR_some hw, joinS_all hl]
    cases some1 (joinB l) <;> cases goodB (joinB l) <;> simp
theorem from_down {d y : ByteArray} (h : some1 d = false ∨ goodB d = true) (hy : goodB y = true) : (fromP d y).2 = goodB (jn d y) ∧ ((fromP d y).2 = true → (fromP d y).1 = jn d y) := by
  have hy2 : ∀ x ∈ cutB 47 y, partB x = true ∧ badB x = false := fun x hx => by
    have h1 := good_all hy x hx
    have h2 := part_bad x (cut_free 47 y x hx)
    rw [h1] at h2
    refine ⟨h1, ?_⟩
    cases hb : badB x with
    | false => rfl
    | true => rw [hb] at h2; cases h2
  have hw := walk_parts (cutB 47 y) hy2 (splitL d)
  have hys := good_some hy
  have hj : joinB (splitL d ++ cutB 47 y) = jn d y := by
    rcases h with h | h
    · rw [jn_right h hys]
      unfold splitL; rw [h]
      exact join_cut y
    · rw [good_split h, jn_two (good_some h) hys, ← cut_two, join_cut]
  have hsj : some1 (jn d y) = true := by
    rcases h with h | h
    · rw [jn_right h hys]; exact hys
    · rw [jn_two (good_some h) hys]; exact some1_app _ _ hys
  rw [fromP_some hw, hj, hsj]
  cases goodB (jn d y) <;> simp

theorem cmp_under {a b : ByteArray} (ha : some1 a = true) (hb : some1 b = true) : cmpP a (a ++ ⟨#[47]⟩ ++ b) = -1 := by
  unfold cmpP
  have h1 : some1 (a ++ ⟨#[47]⟩ ++ b) = true := some1_app _ _ hb
  have e1 : splitL a = cutB 47 a := by unfold splitL; rw [ha]; rfl
  have e2 : splitL (a ++ ⟨#[47]⟩ ++ b) = cutB 47 (a ++ ⟨#[47]⟩ ++ b) := by unfold splitL; rw [h1]; rfl
  rw [e1, e2, cut_two]
  have hp := cutB_ne 47 b
  cases hc : cutB 47 b with
  | nil => rw [hc] at hp; simp at hp
  | cons x r =>
    have := cmpL_app (cutB 47 a) [] (x :: r)
    rw [List.append_nil] at this
    rw [this, cmpL_left]
end Go.Proofs.YthgbclgdaaaefaaDoor
