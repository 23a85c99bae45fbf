/- Behind a Sync; a Put behind it, of which five bytes stay at most. -/
import Derived.Test.YtbdlmdmbaajcmaaWc
namespace Go.Proofs.Ytbdlmdmbaajcmaa
set_option linter.unusedVariables false
set_option linter.unusedSimpArgs false
open Go.ChangeShapes Go.WideShapes Go.ChangeAt Go.RowKit

/-- All of the file is safe. -/
def Sy (A : List Ab) (nm : ByteArray) (L : List En) : Prop :=
  (A = [] ∧ L = []) ∨ ∃ H, A = [(nm, G.recsL H, (G.recsL H).length)] ∧ (∀ r ∈ H, r.size ≤ 65536) ∧ doSome [] H = some L
theorem One.sync2 {r : Int} {h : Hd} (k : Lit_ r h) {A : List Ab} {nm : ByteArray} (h1 : goodN nm = true) {L : List En} {z : Nat} (o : One A nm L z) : ∃ h2 A2, syncOut h A nm = (0, h2, A2) ∧ Lit_ r h2 ∧ One A2 nm L z ∧ Sy A2 nm L ∧ h.acts ≤ h2.acts ∧ h2.acts ≤ h.acts + 3 := by
  unfold syncOut syncR
  rw [find_look k h1]
  rcases o with ⟨rfl, rfl, rfl⟩ | ⟨H, s, rfl, q1, q2, q3⟩
  · rw [if_neg (by simp [lookA]), step_pre (by decide)]
    exact ⟨h, [], rfl, k, .inl ⟨rfl, rfl, rfl⟩, .inl ⟨rfl, rfl⟩, by omega, by omega⟩
  · have hla : lookA [(nm, G.recsL H, s)] nm = some (nm, G.recsL H, s) := by simp [lookA]
    rw [hla, if_pos (by simp), step_lit k]
    have hs : synA [(nm, G.recsL H, s)] nm = [(nm, G.recsL H, (G.recsL H).length)] := by simp [synA, lookA, updA]
    exact ⟨_, _, rfl, lit_next k, .inr ⟨H, (G.recsL H).length, hs, q1, q2, q3⟩, .inr ⟨H, hs, q1, q2⟩, by show h.acts ≤ h.acts + 1; omega, by show h.acts + 1 ≤ h.acts + 3; omega⟩
theorem Sy.apd_five {A : List Ab} {nm : ByteArray} {L : List En} (k : Sy A nm L) (c : List UInt8) (torn : Bool) : Tl ((apdA A nm c).map (loseA 5 torn)) nm L 5 := by
  rcases k with ⟨rfl, rfl⟩ | ⟨H, rfl, q1, q2⟩
  · have := Tl.five (nm := nm) (H := []) (t := c) (L := []) (by simp) rfl torn
    have e : apdA [] nm c = [(nm, G.recsL [] ++ c, (G.recsL []).length)] := by simp [apdA, lookA, updA, G.recsL]
    rw [e]
    exact this
  · have := Tl.five (nm := nm) (H := H) (t := c) q1 q2 torn
    have e : apdA [(nm, G.recsL H, (G.recsL H).length)] nm c = [(nm, G.recsL H ++ c, (G.recsL H).length)] := by simp [apdA, lookA, updA]
    rw [e]
    exact this
theorem Sy.same_five {A : List Ab} {nm : ByteArray} {L : List En} (k : Sy A nm L) (hne : L ≠ []) (torn : Bool) : Tl (A.map (loseA 5 torn)) nm L 5 := by
  rcases k with ⟨_, rfl⟩ | ⟨H, rfl, q1, q2⟩
  · exact absurd rfl hne
  · have := Tl.five (nm := nm) (H := H) (t := []) q1 q2 torn
    rwa [List.append_nil] at this
/-- A Put whose bytes aren't safe, and the power goes. -/
theorem put_five {r : Int} {n N : Nat} {nm : ByteArray} {h : Hd} {A : List Ab} {L : List En} {z : Nat} (s : Sol r n nm h A L z) (g : goodN nm = true) (sy : Sy A nm L) (bL : Bd N L) (m : Int) {k v : ByteArray} (hk : k.size ≤ 4096) (hv : v.size ≤ 4096) (hroom : (z : Int) + (bytesN (putRs L m k v) : Int) ≤ r) (torn : Bool) :
    Tl ((putOut h A nm m L k v).1.2.2.map (loseA 5 torn)) nm L 5 ∧ DvOk (n + 2) (putOut h A nm m L k v).1.2.1 (putOut h A nm m L k v).1.2.2 ∧ Lit_ r (putOut h A nm m L k v).1.2.1 := by
  unfold putOut
  rw [if_neg (putB_small hk hv)]
  by_cases hg : getL L k = (v, true)
  · rw [if_pos hg]
    refine ⟨sy.same_five (fun e => ?_) torn, s.ok.more (by omega), s.k⟩
    have := getL_ne L k v hg
    rw [e] at this
    simp at this
  · rw [if_neg hg]
    rcases s.log g (putRs L m k v) (fun x hx => by have := bL.putRs m hk hv x hx; omega) (put_known bL m hk hv) with ⟨hf, hl⟩ | ⟨hf, h2, A2, hl, s2⟩
    · omega
    · have hlit := log_lit s.k g (A := A) (cc := G.recsL (putRs L m k v)) (by
        rw [s.o.tot, bytesN_recs _ (fun x hx => by have := bL.putRs m hk hv x hx; omega)]; omega)
      have hA : A2 = apdA A nm (G.recsL (putRs L m k v)) := by
        rw [hlit] at hl
        exact (congrArg (fun q => q.2.2) hl).symm
      dsimp only
      rw [hl]
      refine ⟨?_, s2.ok, s2.k⟩
      show Tl (A2.map (loseA 5 torn)) nm L 5
      rw [hA]
      exact sy.apd_five _ torn
end Go.Proofs.Ytbdlmdmbaajcmaa
