/- Where there is room: the errors are the same; what a call costs. -/
import Derived.Test.YtbdlmdmbaajcmaaWa
import Derived.Test.YtbdlmdmbaajcmaaVh
namespace Go.Proofs.Ytbdlmdmbaajcmaa
set_option linter.unusedVariables false
set_option linter.unusedSimpArgs false
open Go.ChangeShapes Go.WideShapes Go.ChangeAt Go.RowKit

theorem ref_err {L : List En} {m z f z2 f2 : Int} {c : Cl} (h : ¬ noFit L m f c) (h2 : ¬ noFit L m f2 c) : (refOut L m z f c).1 = (refOut L m z2 f2 c).1 := by
  unfold noFit at h h2
  have q1 : ¬ f < (bytesN (putRs L m c.key c.val) : Int) := fun q => h (.inl q)
  have q2 : ¬ f < (bytesN (evictRs L c.n) : Int) := fun q => h (.inr (.inl q))
  have q3 : ¬ f < (bytesN (L.map putB) : Int) := fun q => h (.inr (.inr q))
  have p1 : ¬ f2 < (bytesN (putRs L m c.key c.val) : Int) := fun q => h2 (.inl q)
  have p2 : ¬ f2 < (bytesN (evictRs L c.n) : Int) := fun q => h2 (.inr (.inl q))
  have p3 : ¬ f2 < (bytesN (L.map putB) : Int) := fun q => h2 (.inr (.inr q))
  unfold refOut refPutOut refEvictOut refCompOut writeOut
  simp only [if_neg q1, if_neg q2, if_neg q3, if_neg p1, if_neg p2, if_neg p3]
  repeat' (first | rfl | contradiction | split)
/-- What a call's records come to, where there are 60 entries at most and 4096 bytes in all. -/
structure Cost (L : List En) (m : Int) (c : Cl) : Prop where
  p : bytesN (putRs L m c.key c.val) ≤ 8271
  e : bytesN (evictRs L c.n) ≤ 8271
  c : bytesN (L.map putB) ≤ 8271
theorem cost_of {N : Nat} {L : List En} (bL : Bd N L) (hl : L.length ≤ 60) {m : Int} (hm : (L.length : Int) ≤ m) (hsum : sumL L ≤ 4096) (c : Cl) (hk : c.key.size + c.val.size ≤ 4096) : Cost L m c := by
  refine ⟨?_, ?_, ?_⟩
  · have hmax : ∀ e ∈ L, e.1.size ≤ 4096 := fun e he => (bL.s e he).1
    have := (putRs_size L m c.key c.val 4096 hmax hm).1
    unfold bytesN; omega
  · have h1 := gone_sum (L.take c.n.toNat)
    have h2 := sumL_sub (List.take_sublist c.n.toNat L)
    have h3 : (L.take c.n.toNat).length ≤ 60 := by rw [List.length_take]; omega
    unfold evictRs
    omega
  · have := puts_sum L; omega
theorem Cost.fit {L : List En} {m : Int} {c : Cl} (k : Cost L m c) {f : Int} (hf : 8271 ≤ f) : ¬ noFit L m f c := by
  have := k.p
  have := k.e
  have := k.c
  unfold noFit
  omega
theorem Cost.z {L : List En} {m : Int} {c : Cl} (k : Cost L m c) (z f : Int) (hz : 0 ≤ z) : 0 ≤ (refOut L m z f c).2.2 ∧ (refOut L m z f c).2.2 ≤ z + 8271 := by
  have := k.p
  have := k.e
  have := k.c
  unfold refOut
  split
  · unfold refPutOut
    split
    · dsimp only; omega
    · split
      · dsimp only; omega
      · unfold writeOut
        split <;> (dsimp only; omega)
  · split
    · unfold refEvictOut
      split
      · dsimp only; omega
      · split
        · dsimp only; omega
        · unfold writeOut
          split <;> (dsimp only; omega)
    · split
      · dsimp only; omega
      · split
        · unfold refCompOut
          split <;> (dsimp only; omega)
        · dsimp only; omega
end Go.Proofs.Ytbdlmdmbaajcmaa
