/- TreeShares' walk. -/
import Derived.Test.YtdhaanaenklleaaGreatDoorQa
namespace Go.Proofs.YtdhaanaenklleaaGreatDoor
set_option linter.unusedVariables false
set_option linter.unusedSimpArgs false
open Go.ChangeShapes Go.WideShapes Go.ChangeAt Go.RowKit

/-- Another store's blocks turn. -/
theorem Hav.other {T X T1 : Nat → Prop} {b nc nb nt : Nat} {fc : List UInt8 → Option Value} {AB : List ByteArray} {AT : List (List Ent)} {w w' : World} (h : Hav T X b fc nc AB AT nb nt w) (hX : ∀ q, T1 q → X q) (hd : ∀ q, T1 q → ¬ T q) (hk : Kp T1 w w') : Hav T X b fc nc AB AT nb nt w' := by
  obtain ⟨hl, hx, fb, ft, h1, h2, h3, h4, h5⟩ := h
  refine ⟨fun q hq => ⟨(hl q hq).1, Nat.lt_of_lt_of_le (hl q hq).2 hk.size⟩, fun q hq => Nat.lt_of_lt_of_le (hx q hq) hk.size, fb, ft, h1.same (fun q hq => hk.block q (hl q hq).2 (fun ht => hd q ht hq)), h2, h3, fun x r hx => ?_, h5⟩
  obtain ⟨a, ha, e, base, r1, r2, r3⟩ := h4 x r hx
  exact ⟨a, ha, e, base, r1, own_same r2 (fun q h5 h6 h7 => hk.block q h6 (fun ht => r3 q (hX q ht) h7)), r3⟩
theorem has_self {AT : List (List Ent)} {AB : List ByteArray} : (∀ s ∈ AB, hasB AB s) ∧ (∀ a ∈ AT, hasT AT a) := ⟨fun s hs => ⟨s, hs, rfl⟩, fun a ha => ⟨a, ha, rfl⟩⟩
theorem hav_new {w w1 : World} {b : Nat} {X : Nat → Prop} (hM : 1 < w.heap.size) (hX : ∀ q, X q → q < w1.heap.size) (h : Sto (fun k => w.heap.size ≤ k ∧ k < w1.heap.size) b (fun _ => none) (fun _ => none) (fun _ => none) 0 0 0 w1) :
    Hav (fun k => w.heap.size ≤ k ∧ k < w1.heap.size) X b (fun _ => none) 0 [] [] 0 0 w1 :=
  ⟨fun q hq => ⟨by omega, hq.2⟩, hX, _, _, h, fun x v h => by (cases h), fun s h => by (cases h), fun x r h => by (cases h), fun a h => by (cases h)⟩
theorem sum_size {a : List Fil} {m : Nat} (h : sumF a ≤ m) : ∀ x ∈ a, x.1.size ≤ m ∧ x.2.1.size ≤ m := fun x hx => by
  have := sumF_mem hx; omega
end Go.Proofs.YtdhaanaenklleaaGreatDoor
