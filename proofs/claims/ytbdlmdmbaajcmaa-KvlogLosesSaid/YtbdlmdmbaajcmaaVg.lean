/- A store beside others: there is room for all. -/
import Derived.Test.YtbdlmdmbaajcmaaZy
namespace Go.Proofs.Ytbdlmdmbaajcmaa
set_option linter.unusedVariables false
set_option linter.unusedSimpArgs false
open Go.ChangeShapes Go.WideShapes Go.ChangeAt Go.RowKit

def sumL (L : List En) : Nat := (L.map fun e => e.1.size + e.2.size).sum
theorem sumL_app (a b : List En) : sumL (a ++ b) = sumL a + sumL b := by unfold sumL; rw [List.map_append, List.sum_append]
theorem sumL_cons (e : En) (l : List En) : sumL (e :: l) = e.1.size + e.2.size + sumL l := by unfold sumL; simp
theorem sumL_sub {a b : List En} (h : a.Sublist b) : sumL a ≤ sumL b := by
  induction h with
  | slnil => exact Nat.le_refl _
  | cons x _ ih => rw [sumL_cons]; omega
  | cons_cons x _ ih => rw [sumL_cons, sumL_cons]; omega
theorem gone_sum : ∀ (L : List En), bytesN (L.map (fun e => goneB e.1)) ≤ 36 * L.length + sumL L
  | [] => by simp [bytesN, G.total]
  | e :: L => by
    have h := gone_sum L
    unfold bytesN at h ⊢
    rw [sumL_cons, List.map_cons, List.length_cons, List.length_cons, G.total, goneB_size]
    omega
theorem puts_sum : ∀ (L : List En), bytesN (L.map putB) ≤ 43 * L.length + sumL L
  | [] => by simp [bytesN, G.total]
  | e :: L => by
    have h := puts_sum L
    unfold bytesN at h ⊢
    rw [sumL_cons, List.map_cons, List.length_cons, List.length_cons, G.total, putB_size]
    omega
/-- A device of which the power is on, with so many bytes at most. -/
structure Lot (n T : Nat) (h : Hd) (A : List Ab) : Prop where
  k : Lit_ 1048576 h
  ok : DvOk n h A
  t : totA A ≤ T
theorem Lot.log {n T : Nat} {h : Hd} {A : List Ab} (s : Lot n T h A) (nd : (A.map (·.1)).Nodup) {nm : ByteArray} (g : goodN nm = true) (R : List ByteArray) (hR : ∀ x ∈ R, x.size ≤ 65536) (hT : T + bytesN R ≤ 1048576) :
    ∃ h2, logR h A nm (G.recsL R) = (0, h2, apdA A nm (G.recsL R)) ∧ Lot (n + 1) (T + bytesN R) h2 (apdA A nm (G.recsL R)) := by
  have hb := bytesN_recs R hR
  have ht := s.t
  have hl := log_lit s.k g (A := A) (cc := G.recsL R) (by rw [hb]; omega)
  have ho := logR_ok s.ok nd nm (G.recsL R)
  rw [hl] at ho
  exact ⟨_, hl, lit_next s.k, ho, by rw [tot_apd nd, hb]; omega⟩
theorem nd_apd {A : List Ab} {x : ByteArray} {c : List UInt8} (hn : (A.map (·.1)).Nodup) : ((apdA A x c).map (·.1)).Nodup := nd_upd hn
theorem nd_syn {A : List Ab} {x : ByteArray} (hn : (A.map (·.1)).Nodup) : ((synA A x).map (·.1)).Nodup := by
  unfold synA
  split
  · exact nd_upd hn
  · exact hn
theorem look_apd {A : List Ab} {x : ByteArray} {c : List UInt8} (hn : (A.map (·.1)).Nodup) : (lookA (apdA A x c) x).isSome = true := by
  unfold apdA
  rw [lookA_upd hn]
  split <;> simp
theorem look_syn {A : List Ab} {x : ByteArray} (hn : (A.map (·.1)).Nodup) (hl : (lookA A x).isSome = true) : (lookA (synA A x) x).isSome = true := by
  obtain ⟨y, hy⟩ := Option.isSome_iff_exists.1 hl
  unfold synA
  rw [hy]
  dsimp only
  rw [lookA_upd hn, if_pos rfl]
  rfl
theorem Lot.comp {n T : Nat} {h : Hd} {A : List Ab} (s : Lot n T h A) (nd : (A.map (·.1)).Nodup) {nm : ByteArray} (g : goodN nm = true) (g2 : goodN (nm ++ wNew) = true) (L : List En) (hL : ∀ x ∈ L.map putB, x.size ≤ 65536) (hT : T + bytesN (L.map putB) ≤ 1048576) :
    ∃ h2 A2, compOut h A nm L = (0, h2, A2) ∧ Lot (n + 3) (T + bytesN (L.map putB)) h2 A2 := by
  obtain ⟨h1, q1, s1⟩ := s.log nd g2 (L.map putB) hL hT
  have n1 := nd_apd (x := nm ++ wNew) (c := G.recsL (L.map putB)) nd
  have l1 := look_apd (x := nm ++ wNew) (c := G.recsL (L.map putB)) nd
  unfold compOut
  rw [q1]
  generalize apdA A (nm ++ wNew) (G.recsL (L.map putB)) = A1 at *
  unfold compB
  rw [if_neg (by simp)]
  dsimp only
  have o2 := syncR_ok s1.ok n1 (nm ++ wNew)
  have e2 : syncR h1 A1 (nm ++ wNew) = (0, ⟨h1.room, h1.acts + 1, false, 0, h1.keep, h1.torn⟩, synA A1 (nm ++ wNew)) := by
    unfold syncR
    rw [find_look s1.k g2, if_pos l1, step_lit s1.k]
  rw [e2] at o2 ⊢
  have k2 := lit_next s1.k
  generalize (⟨h1.room, h1.acts + 1, false, 0, h1.keep, h1.torn⟩ : Hd) = h2 at *
  have n2 := nd_syn (x := nm ++ wNew) n1
  have l2 := look_syn n1 l1
  have t2 := tot_syn (x := nm ++ wNew) n1
  dsimp only at o2
  unfold compC
  rw [if_neg (by simp)]
  dsimp only
  generalize synA A1 (nm ++ wNew) = A2 at *
  have o3 := renR_ok o2 n2 (nm ++ wNew) nm
  have e3 : renR h2 A2 (nm ++ wNew) nm = (0, ⟨h2.room, h2.acts + 1, false, 0, h2.keep, h2.torn⟩, renA A2 (nm ++ wNew) nm) := by
    unfold renR
    rw [find_look k2 g2, if_pos l2, if_neg (by simp), if_pos g, step_lit k2]
  rw [e3] at o3 ⊢
  refine ⟨_, _, rfl, lit_next k2, o3, ?_⟩
  have := tot_ren (x := nm ++ wNew) (z := nm) n2
  have := s1.t
  omega
theorem Lot.more {n n2 T T2 : Nat} {h : Hd} {A : List Ab} (s : Lot n T h A) (hn : n ≤ n2) (hT : T ≤ T2) : Lot n2 T2 h A := ⟨s.k, s.ok.more hn, Nat.le_trans s.t hT⟩
theorem Lot.sync {n T : Nat} {h : Hd} {A : List Ab} (s : Lot n T h A) (nd : (A.map (·.1)).Nodup) {nm : ByteArray} (g : goodN nm = true) : ∃ h2 A2, syncOut h A nm = (0, h2, A2) ∧ Lot (n + 1) T h2 A2 := by
  have o := syncR_ok s.ok nd nm
  unfold syncOut
  unfold syncR at o ⊢
  rw [find_look s.k g] at o ⊢
  by_cases hl : (lookA A nm).isSome = true
  · rw [if_pos hl, step_lit s.k] at o ⊢
    exact ⟨_, _, rfl, lit_next s.k, o, by rw [tot_syn nd]; exact s.t⟩
  · rw [if_neg hl, step_pre (by decide)] at o ⊢
    exact ⟨h, A, rfl, s.k, o, s.t⟩
/-- What a call of the code comes to, where there is room. -/
theorem code_two {n T N : Nat} {nm : ByteArray} {h : Hd} {A : List Ab} {L : List En} (s : Lot n T h A) (nd : (A.map (·.1)).Nodup) (g : goodN nm = true) (g2 : goodN (nm ++ wNew) = true) (bL : Bd N L) (hl20 : (L.length : Int) ≤ 20) (hsum : sumL L ≤ 4096) (c : Cl) (hk : c.key.size + c.val.size ≤ 4096) (z : Int) (hT : T + 8271 ≤ 1048576) :
    ∃ h2 A2, (codeOut h A nm 20 L c).1 = ((refOut L 20 z 1048576 c).1, h2, A2) ∧ (if (codeOut h A nm 20 L c).1.1 = 0 then (codeOut h A nm 20 L c).2 else L) = (refOut L 20 z 1048576 c).2.1 ∧ Lot (n + 3) (T + 8271) h2 A2 := by
  have hl : L.length ≤ 20 := by omega
  have hnf : ¬ noFit L 20 1048576 c := fits bL hl (by omega) (by omega) (by decide)
  have f1 : ¬ (1048576 : Int) < (bytesN (putRs L 20 c.key c.val) : Int) := fun q => hnf (.inl q)
  have f2 : ¬ (1048576 : Int) < (bytesN (evictRs L c.n) : Int) := fun q => hnf (.inr (.inl q))
  have f3 : ¬ (1048576 : Int) < (bytesN (L.map putB) : Int) := fun q => hnf (.inr (.inr q))
  have zp : bytesN (putRs L 20 c.key c.val) ≤ 8271 := by
    have hmax : ∀ e ∈ L, e.1.size ≤ 4096 := fun e he => (bL.s e he).1
    have := (putRs_size L 20 c.key c.val 4096 hmax hl20).1
    unfold bytesN; omega
  have ze : bytesN (evictRs L c.n) ≤ 8271 := by
    have h1 := gone_sum (L.take c.n.toNat)
    have h2 := sumL_sub (List.take_sublist c.n.toNat L)
    have h3 : (L.take c.n.toNat).length ≤ 20 := by rw [List.length_take]; omega
    unfold evictRs
    omega
  have zc : bytesN (L.map putB) ≤ 8271 := by have := puts_sum L; omega
  unfold codeOut refOut
  by_cases h0 : c.kind = 0
  · simp only [if_pos h0]
    unfold putOut refPutOut
    simp only [if_neg (putB_small (show c.key.size ≤ 4096 by omega) (show c.val.size ≤ 4096 by omega))]
    by_cases hg : getL L c.key = (c.val, true)
    · simp only [if_pos hg]
      exact ⟨h, A, rfl, by simp, s.more (by omega) (by omega)⟩
    · simp only [if_neg hg]
      unfold writeOut
      simp only [if_neg f1]
      obtain ⟨h2, q, s2⟩ := s.log nd g (putRs L 20 c.key c.val) (fun x hx => by have := bL.putRs 20 (show c.key.size ≤ 4096 by omega) (show c.val.size ≤ 4096 by omega) x hx; omega) (by omega)
      rw [q]
      exact ⟨h2, _, rfl, by simp, s2.more (by omega) (by omega)⟩
  simp only [if_neg h0]
  by_cases h1 : c.kind = 1
  · simp only [if_pos h1]
    unfold evictOut refEvictOut
    by_cases hn : c.n < 0
    · simp only [if_pos hn]
      exact ⟨h, A, rfl, by simp, s.more (by omega) (by omega)⟩
    · simp only [if_neg hn]
      obtain ⟨h2, q, s2⟩ := s.log nd g (evictRs L c.n) (fun x hx => by have := bL.evRs c.n x hx; omega) (by omega)
      rw [q]
      by_cases he : (evictRs L c.n).length = 0
      · simp only [if_pos he]
        have h00 : evictRs L c.n = [] := List.eq_nil_of_length_eq_zero he
        exact ⟨h2, _, rfl, by rw [h00]; simp [doAll], s2.more (by omega) (by omega)⟩
      · simp only [if_neg he]
        unfold writeOut
        simp only [if_neg f2]
        exact ⟨h2, _, rfl, by simp, s2.more (by omega) (by omega)⟩
  simp only [if_neg h1]
  by_cases h2 : c.kind = 2
  · simp only [if_pos h2]
    obtain ⟨h2, A2, q, s2⟩ := s.sync nd g
    rw [q]
    exact ⟨h2, A2, rfl, by simp, s2.more (by omega) (by omega)⟩
  simp only [if_neg h2]
  by_cases h3 : c.kind = 3
  · simp only [if_pos h3]
    unfold refCompOut
    simp only [if_neg f3]
    obtain ⟨h2, A2, q, s2⟩ := s.comp nd g g2 L (fun x hx => by have := bL.cpRs x hx; omega) (by omega)
    rw [q]
    exact ⟨h2, A2, rfl, by simp, s2.more (by omega) (by omega)⟩
  simp only [if_neg h3]
  exact ⟨h, A, rfl, by simp, s.more (by omega) (by omega)⟩
end Go.Proofs.Ytbdlmdmbaajcmaa
