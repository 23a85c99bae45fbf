/- Walks: the rounds' numbers. -/
import Derived.Test.YtdhaanaenklleaaDoorSWa
import Derived.Test.YtdhaanaenklleaaDoorSKw
import Derived.Test.YtdhaanaenklleaaDoorKq
import Derived.Test.YtdhaanaenklleaaDoorSKr
import Derived.Deep.WholeRow
import Derived.Great.BuildSlice
namespace Go.Proofs.YtdhaanaenklleaaDoor.S
set_option linter.unusedVariables false
open Go.ChangeShapes Go.WideShapes Go.ChangeAt Go.RowKit

set_option maxRecDepth 100000 in
set_option maxHeartbeats 1000000 in
theorem numbers_any (w : World) : Calls Tryd.prog 87 #[] w fun e w' => e = .returned (.agg (ints .u32 K64)) ∧ Below w.heap.size w w' := by
  go_enter Tryd.func87, Tryd.ntmps87
  go_wp2_with (first
    | (refine wpList_buildTo rfl 135 _ rfl (some 1) rfl (ints .u32 K64) (by as_aux_lemma => kernel_rfl) ?_)
    | (refine wpList_store_rowTo rfl 135 _ _ rfl rfl w.heap.size (ints .u32 K64) rfl rfl 135 _ (heap_alloc_new w _) (by as_aux_lemma => kernel_rfl) (by as_aux_lemma => kernel_rfl) (ints_one _ _) ?_; rw [World.setRow_alloc_new]))
  trace_state
  refine bodyPost_ret (v := .agg (ints .u32 K64)) (results_cell_row (fr := (0, 0)) rfl _ _ w.heap.size 135 _ _ rfl (heap_alloc_new w _) Tryd.underlying135 rfl (by as_aux_lemma => kernel_rfl)) rfl ⟨rfl, (Below.refl _ _).alloc (Nat.le_refl _) _⟩
end Go.Proofs.YtdhaanaenklleaaDoor.S
