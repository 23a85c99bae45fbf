/- A file with a short tail: what the loss of power, and opening, leave of it. -/
import Derived.Test.YtbdlmdmbaajcmaaVg
namespace Go.Proofs.Ytbdlmdmbaajcmaa
set_option linter.unusedVariables false
set_option linter.unusedSimpArgs false
open Go.ChangeShapes Go.WideShapes Go.ChangeAt Go.RowKit

theorem lose_tail (keep : Int) (torn : Bool) (c t : List UInt8) (s : Nat) (h1 : c.length ≤ s) (h2 : s ≤ (c ++ t).length) :
    ∃ t', loseD keep torn (c ++ t) s = c ++ t' ∧ t'.length = s + keptN keep (c ++ t) s - c.length := by
  have hk := keptN_le keep (c ++ t) s
  have hlen := loseD_len (keep := keep) (torn := torn) h2
  rw [List.length_append] at h2 hk
  have htk : (c ++ t).take (s + keptN keep (c ++ t) s) = c ++ t.take (s + keptN keep (c ++ t) s - c.length) := by
    rw [List.take_append, List.take_of_length_le (by omega)]
  unfold loseD at hlen ⊢
  split at hlen
  · rename_i hc
    rw [if_pos hc, htk, List.set_append_right _ _ (by omega)]
    refine ⟨_, rfl, ?_⟩
    rw [htk, List.set_append_right _ _ (by omega), List.length_append] at hlen
    omega
  · rename_i hc
    rw [if_neg hc, htk]
    refine ⟨_, rfl, ?_⟩
    rw [htk, List.length_append] at hlen
    omega
/-- The store's file: its records, and a tail of so many bytes at most. -/
structure Tl (A : List Ab) (nm : ByteArray) (L : List En) (q : Nat) : Prop where
  f : ∃ H t s, A = [(nm, G.recsL H ++ t, s)] ∧ (G.recsL H).length ≤ s ∧ s ≤ (G.recsL H ++ t).length ∧ (∀ r ∈ H, r.size ≤ 65536) ∧ doSome [] H = some L ∧ t.length ≤ q
theorem Tl.lose {A : List Ab} {nm : ByteArray} {L : List En} {q : Nat} (k : Tl A nm L q) (keep : Int) (torn : Bool) : Tl (A.map (loseA keep torn)) nm L q := by
  obtain ⟨H, t, s, rfl, h1, h2, h3, h4, h5⟩ := k.f
  obtain ⟨t', e, hl⟩ := lose_tail keep torn (G.recsL H) t s h1 h2
  have hk := keptN_le keep (G.recsL H ++ t) s
  rw [List.length_append] at hk h2
  refine ⟨H, t', (G.recsL H ++ t').length, ?_, by rw [List.length_append]; omega, Nat.le_refl _, h3, h4, by omega⟩
  show [(nm, loseD keep torn (G.recsL H ++ t) s, (loseD keep torn (G.recsL H ++ t) s).length)] = _
  rw [e]
/-- What was synced, and a tail of whatever length: five bytes of it stay at most. -/
theorem Tl.five {nm : ByteArray} {L : List En} {H : List ByteArray} {t : List UInt8} (h3 : ∀ r ∈ H, r.size ≤ 65536) (h4 : doSome [] H = some L) (torn : Bool) : Tl ([(nm, G.recsL H ++ t, (G.recsL H).length)].map (loseA 5 torn)) nm L 5 := by
  obtain ⟨t', e, hl⟩ := lose_tail 5 torn (G.recsL H) t (G.recsL H).length (Nat.le_refl _) (by rw [List.length_append]; omega)
  have hk : keptN 5 (G.recsL H ++ t) (G.recsL H).length ≤ 5 := Nat.min_le_left _ _
  refine ⟨H, t', (G.recsL H ++ t').length, ?_, by rw [List.length_append]; omega, Nat.le_refl _, h3, h4, by omega⟩
  show [(nm, loseD 5 torn (G.recsL H ++ t) (G.recsL H).length, (loseD 5 torn (G.recsL H ++ t) (G.recsL H).length).length)] = _
  rw [e]
/-- It is opened: it is, or the power goes; what is there stays. -/
theorem Tl.open {A : List Ab} {nm : ByteArray} {L : List En} {h : Hd} (k : Tl A nm L 7) (hd : h.down = false) (h1 : goodN nm = true) (h2 : goodN (nm ++ wNew) = true) :
    ∃ h2 A2, (openOut h A nm = (0, h2, A2, L) ∨ openOut h A nm = (7, h2, A2, [])) ∧ Tl A2 nm L 7 := by
  obtain ⟨H, t, s, rfl, q1, q2, q3, q4, q5⟩ := k.f
  have hne := ready_ne nm rfl
  have r1 : readyE h nm = 0 := by unfold readyE; rw [if_neg (by rw [hd]; simp), if_pos h1]
  have r2 : readyE h (nm ++ wNew) = 0 := by unfold readyE; rw [if_neg (by rw [hd]; simp), if_pos h2]
  have hw : G.wholeL t = none := G.wholeL_short t (by omega)
  unfold openOut
  rw [show findA h [(nm, G.recsL H ++ t, s)] (nm ++ wNew) = 5 from by unfold findA; rw [if_neg (by rw [r2]; simp)]; simp [lookA, hne], step_pre (by decide)]
  unfold openA
  rw [if_neg (by simp)]
  dsimp only
  unfold mendOut
  rw [show findA h [(nm, G.recsL H ++ t, s)] nm = 0 from by unfold findA; rw [if_neg (by rw [r1]; simp)]; simp [lookA], if_pos rfl]
  rw [show lookA [(nm, G.recsL H ++ t, s)] nm = some (nm, G.recsL H ++ t, s) from by simp [lookA]]
  dsimp only
  rw [G.split_recs H t q3 hw]
  dsimp only
  by_cases ht : (G.recsL H).length < (G.recsL H ++ t).length
  · rw [if_pos ht]
    have hcut : cutA [(nm, G.recsL H ++ t, s)] nm (G.recsL H).length = [(nm, G.recsL H ++ [], min s (G.recsL H).length)] := by
      rw [List.length_append] at ht
      simp [cutA, lookA, updA]
    have hT1 : Tl (cutA [(nm, G.recsL H ++ t, s)] nm (G.recsL H).length) nm L 7 := by
      rw [hcut]
      exact ⟨H, [], _, rfl, by omega, by rw [List.append_nil]; omega, q3, q4, by simp⟩
    have hT0 : Tl [(nm, G.recsL H ++ t, s)] nm L 7 := ⟨H, t, s, rfl, q1, q2, q3, q4, q5⟩
    generalize cutA [(nm, G.recsL H ++ t, s)] nm (G.recsL H).length = A1 at *
    by_cases hl : h.left = 1
    · rw [step_off rfl hl]
      dsimp only
      refine ⟨_, _, .inr (by unfold openB; rw [if_pos (by simp)]), ?_⟩
      split
      · exact hT1.lose _ _
      · exact hT0.lose _ _
    · rw [step_ok rfl hl]
      dsimp only
      refine ⟨_, _, .inl (by unfold openB; rw [if_neg (by simp), if_pos rfl]; dsimp only; rw [q4]), hT1⟩
  · rw [if_neg ht]
    exact ⟨h, _, .inl (by unfold openB; rw [if_neg (by simp)]; dsimp only; rw [q4]), H, t, s, rfl, q1, q2, q3, q4, q5⟩
end Go.Proofs.Ytbdlmdmbaajcmaa
