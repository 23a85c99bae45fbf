/- An array of bytes that came in. -/
import Derived.Test.YtbenegkhekofmaaDoorMc
import Derived.WideShapes
import Derived.ChangeArms
import Derived.OpenShut
import Derived.SizedLaws
namespace Go.Proofs.YtbenegkhekofmaaDoor
set_option linter.unusedVariables false
open Go.ChangeShapes Go.WideShapes Go.ChangeAt Go.RowKit

theorem okWide_array {P : Program} {w : World} {r : Reach} {base : Nat} {t e : TypeId} {n : Nat} {v : Value} (ht : P.underlying t = some (.array n e)) (h : Value.okWide P w r base t v) : ∃ cs, v = .agg cs ∧ cs.size = P.cellsOf t := by
  simp only [Value.okWide, ht] at h
  obtain ⟨cs, h1, h2, _⟩ := h
  exact ⟨cs, h1, h2⟩

theorem arr_open {H : Type} {enc : TypeId × Value → H} {P : Program} {W : World} {base : Nat} {t e : TypeId} {n : Nat} (ht : P.underlying t = some (.array n e)) (he : P.underlying e = some (.int .u8)) (hce : P.cellsOf e = 1) (hct : P.cellsOf t = n)
    {cs : Array Value} {fuel : Nat} {d : DataW H} {p : List MemPlace} (hf : DataW.trod enc P W base (fun _ => true) true fuel t (Value.agg cs).cells.toList = some (d, p)) :
    ∃ l : List Nat, cs = ints .u8 l ∧ l.length = n ∧ Small 256 l := by
  obtain ⟨xs, m, _, _, hl, hxl, hat⟩ := DataW.trod_array ht hf
  have hc : (Value.agg cs).cells.toList = cs.toList := rfl
  rw [hc] at hl hat
  have hcs : cs.size = n := by rw [← Array.length_toList, hl, hct]
  have hcell : ∀ i, i < n → ∃ z : Int, cs[i]? = some (.int .u8 z) ∧ 0 ≤ z ∧ z < 256 := fun i hi => by
    have h1 := hat i hi
    rw [hce, Nat.mul_one, List.getElem?_eq_getElem (by omega)] at h1
    obtain ⟨z, hz, _, hw⟩ := DataW.trod_int he h1
    have hw2 : (decide (IntKind.u8.min ≤ z) && decide (z ≤ IntKind.u8.max)) = true := hw
    rw [show IntKind.u8.min = 0 from rfl, show IntKind.u8.max = 255 from rfl, Bool.and_eq_true, decide_eq_true_iff, decide_eq_true_iff] at hw2
    have h2 := congrArg (·[0]?) hz
    simp only [List.getElem?_take_of_lt (show 0 < 1 by decide), List.getElem?_drop, Nat.add_zero, List.getElem?_cons_zero, Array.getElem?_toList] at h2
    exact ⟨z, h2, hw2.1, by omega⟩
  let F : Nat → Nat := fun i => match cs[i]? with | some (.int _ z) => z.toNat | _ => 0
  have hF : ∀ i, i < n → cs[i]? = some (.int .u8 ((F i : Nat) : Int)) ∧ F i < 256 := fun i hi => by
    obtain ⟨z, hz, h0, h1⟩ := hcell i hi
    have e : F i = z.toNat := by show (match cs[i]? with | some (.int _ z) => z.toNat | _ => 0) = _; rw [hz]
    rw [e, hz]
    exact ⟨by rw [show ((z.toNat : Nat) : Int) = z by omega], by omega⟩
  refine ⟨(List.range n).map F, ?_, by simp, fun j => ?_⟩
  · apply Array.ext_getElem?
    intro i
    by_cases hi : i < n
    · rw [(hF i hi).1, ints_get _ _ _ (by simpa using hi), getD_range _ _ _ hi]
    · rw [Array.getElem?_eq_none (by omega), Array.getElem?_eq_none (by rw [ints_size]; simp; omega)]
  · by_cases hj : j < n
    · rw [getD_range _ _ _ hj]; exact (hF j hj).2
    · rw [List.getD_eq_getElem?_getD, List.getElem?_eq_none (by simp; omega)]; decide
end Go.Proofs.YtbenegkhekofmaaDoor
