/- Walks: the statement ExprEvals. -/
import Derived.Test.YtgfcangnfdndpaaDoorWt
namespace Go.Proofs.YtgfcangnfdndpaaDoor
set_option linter.unusedVariables false
open Go.ChangeShapes Go.WideShapes Go.ChangeAt Go.RowKit

theorem eval_both (on parts : List ByteArray) : ∃ x c, evalR on parts = (x, if c then 0 else 4) ∧ refE on parts = (x, c) := by
  unfold evalR refE
  rcases evalS on [] parts with _ | _ | ⟨a, _ | ⟨b, t⟩⟩
  · exact ⟨false, false, rfl, rfl⟩
  · exact ⟨false, false, rfl, rfl⟩
  · exact ⟨a, true, rfl, rfl⟩
  · exact ⟨false, false, rfl, rfl⟩
theorem evals_walk (v u : Value) (parts on : List ByteArray) (w : World) (hv : Strs w v parts) (hz : ∀ x ∈ parts, x.size ≤ 140737488351232) (hl : parts.length ≤ 9223372036854775807) (hu : Strs w u on) (hon : on.length ≤ 9223372036854775807) :
    Calls Tryd.prog 4 #[v, u] w (LawEnd w) := by
  have H10 := Lib.hid (alive_any w)
  by_cases h1 : parts.length ≤ 200
  · by_cases h2 : on.length ≤ 60
    · have HE := Lib.hid (fun w1 (hB : Below w.heap.size w w1) => eval_any v u parts on w1 (hv.below hB) (hu.below hB) (by omega) (by omega) hz)
      have HF := Lib.hid (fun w1 (hB : Below w.heap.size w w1) => refEval_any v u parts on w1 (hv.below hB) (hu.below hB) (by omega) (by omega) hz)
      obtain ⟨x, c, e1, e2⟩ := eval_both on parts
      rw [e1] at HE
      rw [e2] at HF
      obtain ⟨p, cap, rfl, _⟩ := strs_shape hv
      obtain ⟨q, capq, rfl, _⟩ := strs_shape hu
      have h1I : (parts.length : Int) ≤ 200 := by omega
      have h2I : (on.length : Int) ≤ 60 := by omega
      clear hv hu hz e1 e2
      cases c <;> cases x
      all_goals
        go_enter Tryd.func4, Tryd.ntmps4
        go_wp2_with fail
        refine H10.out.mono ?_
        rintro e' w1 ⟨rfl, hB⟩
        go_wp2_with fail
        refine (HE.out _ hB).mono ?_
        rintro e' w2 ⟨rfl, hB2⟩
        replace hB := hB.trans (hB2.mono hB.size)
        clear hB2
        go_wp2_with fail
        refine (HF.out _ hB).mono ?_
        rintro e' w3 ⟨rfl, hB2⟩
        replace hB := hB.trans (hB2.mono hB.size)
        clear hB2
        go_wp2_with fail
        go_ret
        exact ⟨rfl, hB⟩
    · obtain ⟨p, cap, rfl, _⟩ := strs_shape hv
      obtain ⟨q, capq, rfl, _⟩ := strs_shape hu
      have h1I : (parts.length : Int) ≤ 200 := by omega
      have h2I : ¬ (on.length : Int) ≤ 60 := by omega
      clear hv hu hz
      go_enter Tryd.func4, Tryd.ntmps4
      go_wp2_with fail
      refine H10.out.mono ?_
      rintro e' w1 ⟨rfl, hB⟩
      go_wp2_with fail
      go_ret
      exact ⟨rfl, hB⟩
  · obtain ⟨p, cap, rfl, _⟩ := strs_shape hv
    have h1I : ¬ (parts.length : Int) ≤ 200 := by omega
    clear hv hu hz
    go_enter Tryd.func4, Tryd.ntmps4
    go_wp2_with fail
    refine H10.out.mono ?_
    rintro e' w1 ⟨rfl, hB⟩
    go_wp2_with fail
    go_ret
    exact ⟨rfl, hB⟩
end Go.Proofs.YtgfcangnfdndpaaDoor
