/- The theory of both devices: files by names, in whatever order and in order; what agrees. -/
import Derived.Test.YtbdlmdmbaajcmaaD4
import Derived.Sort.Walk0
namespace Go.Proofs.Ytbdlmdmbaajcmaa
set_option linter.unusedVariables false
set_option linter.unusedSimpArgs false
open Go.ChangeShapes Go.WideShapes Go.ChangeAt Go.RowKit Go.ChangeMaps
theorem drpA_mem {A : List Ab} {x : ByteArray} {g : Ab} : g ∈ drpA A x ↔ g ∈ A ∧ g.1 ≠ x := by
  unfold drpA; rw [List.mem_filter, decide_eq_true_eq]
theorem nd_drp {A : List Ab} {x : ByteArray} (h : (A.map (·.1)).Nodup) : ((drpA A x).map (·.1)).Nodup := h.sublist (List.filter_sublist.map _)
theorem lookA_some {A : List Ab} {x : ByteArray} {y : Ab} (h : lookA A x = some y) : y ∈ A ∧ y.1 = x := ⟨List.mem_of_find?_eq_some h, by simpa using List.find?_some h⟩
theorem lookA_none {A : List Ab} {x : ByteArray} (h : lookA A x = none) : ∀ y ∈ A, y.1 ≠ x := fun y hy e => by
  have := List.find?_eq_none.1 h y hy
  simp [e] at this
theorem lookA_mem {A : List Ab} (hn : (A.map (·.1)).Nodup) {y : Ab} (hy : y ∈ A) : lookA A y.1 = some y := by
  cases hl : lookA A y.1 with
  | none => exact absurd rfl (lookA_none hl y hy)
  | some g =>
    obtain ⟨hg, he⟩ := lookA_some hl
    have : g = y := by
      clear hl
      induction A with
      | nil => cases hy
      | cons a A ih =>
        rw [List.map_cons, List.nodup_cons] at hn
        rcases List.mem_cons.1 hy with rfl | hf2 <;> rcases List.mem_cons.1 hg with rfl | hg2
        · rfl
        · exact absurd (he ▸ List.mem_map_of_mem hg2) hn.1
        · exact absurd (he ▸ List.mem_map_of_mem hf2) hn.1
        · exact ih hn.2 hf2 hg2
    rw [this]
theorem lookA_iff {A : List Ab} (hn : (A.map (·.1)).Nodup) {x : ByteArray} {y : Ab} : lookA A x = some y ↔ y ∈ A ∧ y.1 = x := ⟨lookA_some, fun ⟨h, e⟩ => e ▸ lookA_mem hn h⟩
theorem lookA_drp {A : List Ab} {x : ByteArray} (y : ByteArray) : lookA (drpA A x) y = if y = x then none else lookA A y := by
  unfold lookA drpA
  induction A with
  | nil => simp
  | cons a L ih =>
    rw [List.filter_cons]
    by_cases ha : a.1 = x
    · rw [if_neg (by simp [ha]), ih, List.find?_cons]
      by_cases hy : y = x
      · rw [if_pos hy, if_pos hy]
      · rw [if_neg hy, if_neg hy, decide_eq_false (fun e => hy (e.symm.trans ha))]
    · rw [if_pos (by simp [ha]), List.find?_cons, List.find?_cons, ih]
      by_cases hay : a.1 = y
      · have hyx : ¬ y = x := fun e => ha (hay.trans e)
        simp [hay, hyx]
      · rw [decide_eq_false hay]
theorem upd_cases {A : List Ab} {y : Ab} : (lookA A y.1 = none ∧ updA A y = A ++ [y]) ∨ ((lookA A y.1).isSome = true ∧ updA A y = A.map (fun g => if g.1 = y.1 then y else g)) := by
  unfold updA
  by_cases h : (lookA A y.1).isSome = true
  · exact .inr ⟨h, by rw [if_pos h]⟩
  · exact .inl ⟨by simpa using h, by rw [if_neg h]⟩
theorem updA_mem {A : List Ab} {y g : Ab} (h : g ∈ updA A y) : g = y ∨ (g ∈ A ∧ g.1 ≠ y.1) := by
  rcases @upd_cases A y with ⟨h1, h2⟩ | ⟨h1, h2⟩
  · rw [h2] at h
    rcases List.mem_append.1 h with h | h
    · exact .inr ⟨h, lookA_none h1 g h⟩
    · exact .inl (List.mem_singleton.1 h)
  · rw [h2] at h
    obtain ⟨g0, hg0, e⟩ := List.mem_map.1 h
    by_cases hn : g0.1 = y.1
    · rw [if_pos hn] at e; exact .inl e.symm
    · rw [if_neg hn] at e; subst e; exact .inr ⟨hg0, hn⟩
theorem mem_updA {A : List Ab} {y g : Ab} (h : g = y ∨ (g ∈ A ∧ g.1 ≠ y.1)) : g ∈ updA A y := by
  rcases @upd_cases A y with ⟨h1, h2⟩ | ⟨h1, h2⟩ <;> rw [h2]
  · rcases h with rfl | ⟨h, _⟩
    · simp
    · exact List.mem_append_left _ h
  · rcases h with rfl | ⟨h, hn⟩
    · obtain ⟨z, hz⟩ := Option.isSome_iff_exists.1 h1
      obtain ⟨hz1, hz2⟩ := lookA_some hz
      exact List.mem_map.2 ⟨z, hz1, by rw [if_pos hz2]⟩
    · exact List.mem_map.2 ⟨g, h, by rw [if_neg hn]⟩
theorem nd_upd {A : List Ab} {y : Ab} (hn : (A.map (·.1)).Nodup) : ((updA A y).map (·.1)).Nodup := by
  rcases @upd_cases A y with ⟨h1, h2⟩ | ⟨h1, h2⟩ <;> rw [h2]
  · rw [List.map_append, List.nodup_append]
    refine ⟨hn, by simp, fun a ha b hb e => ?_⟩
    simp only [List.map_cons, List.map_nil, List.mem_singleton] at hb
    obtain ⟨g, hg, rfl⟩ := List.mem_map.1 ha
    exact lookA_none h1 g hg (e.trans hb)
  · rw [List.map_map]
    have : ((fun z : Ab => z.1) ∘ fun g => if g.1 = y.1 then y else g) = fun z : Ab => z.1 := by
      funext g
      simp only [Function.comp]
      split
      · rename_i h; exact h.symm
      · rfl
    rw [this]; exact hn
theorem lookA_upd {A : List Ab} {y : Ab} (hn : (A.map (·.1)).Nodup) (x : ByteArray) : lookA (updA A y) x = if y.1 = x then some y else lookA A x := by
  have hp := nd_upd (y := y) hn
  by_cases e : y.1 = x
  · rw [if_pos e]
    exact (lookA_iff hp).2 ⟨mem_updA (.inl rfl), e⟩
  · rw [if_neg e]
    cases hl : lookA A x with
    | none =>
      refine List.find?_eq_none.2 fun z hz => ?_
      rcases updA_mem hz with rfl | ⟨hz, _⟩
      · simpa using e
      · simpa using lookA_none hl z hz
    | some z =>
      obtain ⟨h1, h2⟩ := lookA_some hl
      exact (lookA_iff hp).2 ⟨mem_updA (.inr ⟨h1, fun e2 => e (e2.symm.trans h2)⟩), h2⟩
theorem lookA_lose {A : List Ab} {k : Int} {t : Bool} (x : ByteArray) : lookA (A.map (loseA k t)) x = (lookA A x).map (loseA k t) := by
  unfold lookA
  rw [List.find?_map]
  rfl
def lnO : Option Ab → Nat
  | some y => y.2.1.length
  | none => 0
theorem tot_drp {A : List Ab} {x : ByteArray} : totA (drpA A x) ≤ totA A := by
  unfold totA drpA
  induction A with
  | nil => simp
  | cons a r ih =>
    rw [List.filter_cons]
    split
    · simp only [List.map_cons, List.sum_cons]; omega
    · simp only [List.map_cons, List.sum_cons]; omega
theorem tot_upd {A : List Ab} {y : Ab} (hn : (A.map (·.1)).Nodup) : totA (updA A y) + lnO (lookA A y.1) = totA A + y.2.1.length := by
  rcases @upd_cases A y with ⟨h1, h2⟩ | ⟨h1, h2⟩ <;> rw [h2]
  · rw [h1]; simp [totA, lnO]
  · clear h2
    induction A with
    | nil => simp [lookA] at h1
    | cons a r ih =>
      rw [List.map_cons, List.nodup_cons] at hn
      unfold lookA at h1 ⊢
      rw [List.find?_cons] at h1 ⊢
      by_cases e : a.1 = y.1
      · have hr : r.map (fun g => if g.1 = y.1 then y else g) = r := by
          rw [List.map_congr_left (g := id)]
          · simp
          · intro g hg
            rw [if_neg (fun e2 => hn.1 (by rw [e, ← e2]; exact List.mem_map_of_mem hg))]; rfl
        rw [List.map_cons, hr, if_pos e, decide_eq_true e]
        simp only [totA, List.map_cons, List.sum_cons, lnO]
        omega
      · rw [decide_eq_false e] at h1 ⊢
        have ih := ih hn.2 h1
        rw [List.map_cons, if_neg e]
        simp only [totA, List.map_cons, List.sum_cons] at ih ⊢
        unfold lookA at ih
        omega
theorem len_upd {A : List Ab} {y : Ab} : (updA A y).length ≤ A.length + 1 := by
  rcases @upd_cases A y with ⟨h1, h2⟩ | ⟨h1, h2⟩ <;> rw [h2] <;> simp
theorem tot_apd {A : List Ab} {x : ByteArray} {c : List UInt8} (hn : (A.map (·.1)).Nodup) : totA (apdA A x c) = totA A + c.length := by
  unfold apdA
  cases h : lookA A x with
  | none =>
    have := tot_upd (y := (x, c, 0)) hn
    simp only [h, lnO] at this ⊢
    exact this
  | some y =>
    have := tot_upd (y := (x, y.2.1 ++ c, y.2.2)) hn
    simp only [h, lnO, List.length_append] at this ⊢
    omega
theorem tot_syn {A : List Ab} {x : ByteArray} (hn : (A.map (·.1)).Nodup) : totA (synA A x) = totA A := by
  unfold synA
  cases h : lookA A x with
  | none => rfl
  | some y =>
    have := tot_upd (y := (x, y.2.1, y.2.1.length)) hn
    simp only [h, lnO] at this ⊢
    omega
theorem tot_cut {A : List Ab} {x : ByteArray} {n : Nat} (hn : (A.map (·.1)).Nodup) : totA (cutA A x n) ≤ totA A := by
  unfold cutA
  cases h : lookA A x with
  | none => exact Nat.le_refl _
  | some y =>
    have := tot_upd (y := (x, y.2.1.take (min n y.2.1.length), min y.2.2 (min n y.2.1.length))) hn
    simp only [h, lnO, List.length_take] at this ⊢
    omega
theorem tot_ren {A : List Ab} {x z : ByteArray} (hn : (A.map (·.1)).Nodup) : totA (renA A x z) ≤ totA A := by
  unfold renA
  cases h : lookA A x with
  | none => exact Nat.le_refl _
  | some y =>
    have h1 := tot_upd (y := (z, y.2.1, y.2.2)) (nd_drp (x := x) hn)
    have h2 : totA (drpA A x) + y.2.1.length ≤ totA A := by
      obtain ⟨hm, he⟩ := lookA_some h
      clear h h1 hn
      unfold totA drpA
      induction A with
      | nil => cases hm
      | cons a r ih =>
        rw [List.filter_cons]
        rcases List.mem_cons.1 hm with rfl | hm
        · rw [if_neg (by simp [he])]
          have := @tot_drp r x
          unfold totA drpA at this
          simp only [List.map_cons, List.sum_cons]; omega
        · have := ih hm
          split <;> simp only [List.map_cons, List.sum_cons] <;> omega
    simp only at h1 ⊢
    omega
theorem len_lose (k : Int) (t : Bool) (y : Ab) : (loseA k t y).2.1.length ≤ y.2.1.length := by
  unfold loseA loseD
  have := keptN_le k y.2.1 y.2.2
  simp only
  split
  · rw [List.length_set, List.length_take]; omega
  · rw [List.length_take]; omega
theorem tot_lose {A : List Ab} {k : Int} {t : Bool} : totA (A.map (loseA k t)) ≤ totA A := by
  unfold totA
  induction A with
  | nil => simp
  | cons a r ih =>
    have := len_lose k t a
    simp only [List.map_cons, List.sum_cons] at ih ⊢
    omega
end Go.Proofs.Ytbdlmdmbaajcmaa
