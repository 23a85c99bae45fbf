/- A device and the document's store, while the power goes and comes. -/
import Derived.Test.YtbdlmdmbaajcmaaWb
namespace Go.Proofs.Ytbdlmdmbaajcmaa
set_option linter.unusedVariables false
set_option linter.unusedSimpArgs false
open Go.ChangeShapes Go.WideShapes Go.ChangeAt Go.RowKit

structure Ag (B d : Nat) (h : Hd) (A : List Ab) (c : Nat) (m : Int) (L : List En) (z : Int) (w : World) : Prop where
  f : ∃ TD R : Nat → Prop, DV TD d h A w ∧ Rs R c m L z w ∧ (∀ k, TD k → ¬ R k) ∧ (∀ k, TD k ∨ R k → B ≤ k ∧ k < w.heap.size)
section
variable {B d c : Nat} {h : Hd} {A : List Ab} {m z : Int} {L : List En} {w w' : World}
theorem Tri.ag {b : Nat} {nm : ByteArray} {m1 : Int} {L1 : List En} (k : Tri B b d nm m1 h A L1 c m L z w) : Ag B d h A c m L z w := by
  obtain ⟨TD, TS, TR, k1, k2, k3, k4⟩ := k.s
  refine ⟨TD, TR, k1.kv.dv, k1.rs, fun q hq hr => k1.dj q hr (.inl hq), fun q hq => ?_⟩
  rcases hq with hq | hq
  · exact ⟨k2 q hq, k1.kv.ld q hq⟩
  · exact ⟨k4 q hq, k1.lr q hq⟩
theorem Ag.below (k : Ag B d h A c m L z w) (hB : Below w.heap.size w w') : Ag B d h A c m L z w' := by
  obtain ⟨TD, R, a1, a2, a3, a4⟩ := k.f
  exact ⟨TD, R, a1.below hB, a2.below hB, a3, fun q hq => ⟨(a4 q hq).1, Nat.lt_of_lt_of_le (a4 q hq).2 hB.size⟩⟩
theorem ag_off (k : Ag B d h A c m L z w) (hB : B ≤ w.heap.size) (ht : totA A ≤ 1048576) (keep : Int) (torn : Bool) : Calls Try.prog 29 #[.pointer (some ⟨d, 0, none⟩), .int .i64 keep, .bool torn] w fun e w' => e = .returned (.tuple #[]) ∧ Ag B d (if h.down = true then h else offH h) (if h.down = true then A else A.map (loseA keep torn)) c m L z w' ∧ Below B w w' := by
  obtain ⟨TD, R, a1, a2, a3, a4⟩ := k.f
  refine (cOff a1 ht keep torn).mono ?_
  rintro e w' ⟨h1, h2, h3⟩
  exact ⟨h1, ⟨TD, R, h2, a2.kept h3 (fun q hq hd => a3 q hd hq), a3, fun q hq => ⟨(a4 q hq).1, Nat.lt_of_lt_of_le (a4 q hq).2 h3.size⟩⟩, h3.below (fun q hq => (a4 q (.inl hq)).1) hB⟩
theorem ag_on (k : Ag B d h A c m L z w) (hB : B ≤ w.heap.size) : Calls Try.prog 30 #[.pointer (some ⟨d, 0, none⟩)] w fun e w' => e = .returned (.tuple #[]) ∧ Ag B d { h with down := false } A c m L z w' ∧ Below B w w' := by
  obtain ⟨TD, R, a1, a2, a3, a4⟩ := k.f
  refine (cOn a1).mono ?_
  rintro e w' ⟨h1, h2, h3⟩
  exact ⟨h1, ⟨TD, R, h2, a2.kept h3 (fun q hq hd => a3 q hd hq), a3, fun q hq => ⟨(a4 q hq).1, Nat.lt_of_lt_of_le (a4 q hq).2 h3.size⟩⟩, h3.below (fun q hq => (a4 q (.inl hq)).1) hB⟩
theorem ag_arm (k : Ag B d h A c m L z w) (hB : B ≤ w.heap.size) (n kp : Int) (torn : Bool) : Calls Try.prog 27 #[.pointer (some ⟨d, 0, none⟩), .int .i64 n, .int .i64 kp, .bool torn] w fun e w' => e = .returned (.tuple #[]) ∧ Ag B d { h with left := max n 0, keep := kp, torn := torn } A c m L z w' ∧ Below B w w' := by
  obtain ⟨TD, R, a1, a2, a3, a4⟩ := k.f
  refine (cArm a1 n kp torn).mono ?_
  rintro e w' ⟨h1, h2, h3⟩
  exact ⟨h1, ⟨TD, R, h2, a2.kept h3 (fun q hq hd => a3 q hd hq), a3, fun q hq => ⟨(a4 q hq).1, Nat.lt_of_lt_of_le (a4 q hq).2 h3.size⟩⟩, h3.below (fun q hq => (a4 q (.inl hq)).1) hB⟩
/-- A store is opened, whatever the device is like. -/
theorem ag_open (k : Ag B d h A c m L z w) (hB : B ≤ w.heap.size) {n : Nat} (ok : DvOk n h A) (hn : n ≤ 999998) {nm : ByteArray} (g : goodN nm = true) (g2 : goodN (nm ++ wNew) = true) (m2 : Int) (hm : 1 ≤ m2 ∧ m2 ≤ 4096) :
    Calls Try.prog 12 #[.pointer (some ⟨d, 0, none⟩), .string nm, .int .i64 m2] w fun e w' =>
      ((openOut h A nm).1 = 0 ∧ ∃ b3, e = .returned (.tuple #[.pointer (some ⟨b3, 0, none⟩), .int .i64 0]) ∧ Tri B b3 d nm m2 (openOut h A nm).2.1 (openOut h A nm).2.2.1 (openOut h A nm).2.2.2 c m L z w' ∧ Below B w w') ∨
      ((openOut h A nm).1 ≠ 0 ∧ e = .returned (.tuple #[.pointer none, .int .i64 (openOut h A nm).1]) ∧ Ag B d (openOut h A nm).2.1 (openOut h A nm).2.2.1 c m L z w' ∧ Below B w w') := by
  obtain ⟨TD, R, a1, a2, a3, a4⟩ := k.f
  have hns : nm.size ≤ 28 := by
    have := (goodN_size g2).2
    rw [ByteArray.size_append] at this
    have : wNew.size = 4 := rfl
    omega
  have hne : nm ≠ ⟨#[]⟩ := fun e => by
    have := (goodN_size g).1
    rw [e] at this
    simp [ByteArray.size] at this
  refine (open_any a1 (fun q hq => (a4 q (.inl hq)).2) ok hn nm m2 hne hns hm).mono ?_
  intro e w' ho
  rcases ho with ⟨h0, b3, TD', TS', he, p1, p2, p3, p4⟩ | ⟨h0, he, p1, p4⟩
  · have hs := p4.size
    refine .inl ⟨h0, b3, he, ⟨TD', TS', R, ⟨p1, a2.kept p4 (fun q hq hd => a3 q hd hq), fun q hq ho => ?_, fun q hq => Nat.lt_of_lt_of_le (a4 q (.inr hq)).2 hs⟩, fun q hq => ?_, fun q hq => ?_, fun q hq => (a4 q (.inr hq)).1⟩, p4.below (fun q hq => (a4 q (.inl hq)).1) hB⟩
    · have := (a4 q (.inr hq)).2
      rcases ho with ho | ho
      · rcases p2 q ho with ho | ho
        · exact a3 q ho hq
        · omega
      · have := p3 q ho; omega
    · rcases p2 q hq with hq | hq
      · exact (a4 q (.inl hq)).1
      · omega
    · have := p3 q hq; omega
  · have hs := p4.size
    refine .inr ⟨h0, he, ⟨_, R, p1, a2.kept p4 (fun q hq hd => a3 q hd hq), fun q hq hr => ?_, fun q hq => ?_⟩, p4.below (fun q hq => (a4 q (.inl hq)).1) hB⟩
    · have := (a4 q (.inr hr)).2
      rcases hq with hq | hq
      · exact a3 q hq hr
      · omega
    · rcases hq with hq | hq
      · rcases hq with hq | hq
        · exact ⟨(a4 q (.inl hq)).1, Nat.lt_of_lt_of_le (a4 q (.inl hq)).2 hs⟩
        · exact ⟨by omega, hq.2⟩
      · exact ⟨(a4 q (.inr hq)).1, Nat.lt_of_lt_of_le (a4 q (.inr hq)).2 hs⟩
end
end Go.Proofs.Ytbdlmdmbaajcmaa
