/- Walks: what the document tells, alive. -/
import Derived.Test.YtkmachhfibcdlaaDoorCh
namespace Go.Proofs.YtkmachhfibcdlaaDoor
set_option linter.unusedVariables false
set_option linter.unusedSimpArgs false
open Go.ChangeShapes Go.WideShapes Go.ChangeAt Go.RowKit

theorem mod_one : modM ⟨#[109, 111, 100, 117, 108, 101, 32, 97, 10, 103, 111, 32, 49, 46, 50, 49, 10]⟩ = ⟨⟨#[97]⟩, 21, [], 0⟩ := by kernel_rfl
theorem mod_none : modM ⟨#[]⟩ = ⟨⟨#[]⟩, 0, [], 1⟩ := by kernel_rfl
theorem fld27 (x y z u : Value) (w : World) : (Instr.field 27 (.agg #[x, y, z, u]) 3).run Tryd.prog w = .ok u w := by kernel_rfl
set_option maxRecDepth 100000 in
set_option maxHeartbeats 4000000 in
theorem alive_any (w : World) (hE : Env w) : Calls Tryd.prog 6 #[] w fun e w' => e = .returned (.bool true) ∧ Below w.heap.size w w' := by
  have HP := Lib.hid (parse_any ⟨#[109, 111, 100, 117, 108, 101, 32, 97, 10, 103, 111, 32, 49, 46, 50, 49, 10]⟩ w hE (by decide))
  have HQ := Lib.hid (fun w1 (hB : Below w.heap.size w w1) => parse_any ⟨#[]⟩ w1 (hE.below hB) (by decide))
  rw [mod_one] at HP
  rw [mod_none] at HQ
  clear hE
  go_enter Tryd.func6, Tryd.ntmps6
  go_wp2_with fail
  refine HP.out.mono ?_
  rintro r w1 ⟨v, rfl, ⟨rv, rfl, hr⟩, hB⟩
  have HB := Lib.hid hB
  obtain ⟨pr, cr, rfl, _⟩ := lat_shape hr
  clear hB hr
  go_upto_region 2 with fail
  simp only [List.length_nil, Int.ofNat_zero, Int.natCast_zero] at *
  have hnew := heap_alloc_new w1 (.cells #[.string ⟨#[97]⟩, .int .i64 21, .slice pr 0 cr, .int .i64 0] 27)
  have hBa := (Below.refl w1.heap.size w1).alloc (Nat.le_refl _) (.cells #[.string ⟨#[97]⟩, .int .i64 21, .slice pr 0 cr, .int .i64 0] 27)
  have c0 := block_cell hnew 0
  have c1 := block_cell hnew 1
  have c3 := block_cell hnew 3
  have HB2 := Lib.hid (HB.out.trans (hBa.mono HB.out.size))
  have hf := fld27 (.string ⟨#[]⟩) (.int .i64 0)
  clear hBa hnew HB
  generalize w1.alloc (.cells #[.string ⟨#[97]⟩, .int .i64 21, .slice pr 0 cr, .int .i64 0] 27) = w2 at *
  go_wp2_with fail
  refine (HQ.out _ HB2.out).mono ?_
  rintro r w3 ⟨v, rfl, ⟨rv, rfl, hr⟩, hB⟩
  have HB3 := Lib.hid (HB2.out.trans (hB.mono HB2.out.size))
  clear hB hr
  go_wp2_with fail
  go_ret
  exact ⟨rfl, HB3.out⟩
end Go.Proofs.YtkmachhfibcdlaaDoor
