/- What the listed variable gives the walks: the rounds' numbers; that the door's own heap meets the condition. -/
import Derived.Test.YtbenegkhekofmaaDoorMc
import Derived.Test.YtbenegkhekofmaaDoorRows
import Derived.Lib.LaidU8T
import Derived.LaidMore
import Derived.Lay
import Derived.Stop.Joined
import Derived.ProofKit
namespace Go.Proofs.YtbenegkhekofmaaDoor
open Go.ChangeShapes Go.WideShapes Go.RowKit Go.Lib

theorem keys_eq : (Rows.laid_seiche_sha_keys : DataW Unit) = tabData .u32 (K64.map fun (n : Nat) => (n : Int)) := by kernel_rfl
theorem kn : Tryd.prog.globalNamed "seiche/sha.keys" = some 0 := by kernel_rfl
theorem ky : (Tryd.prog.globals[0]?).map (·.type) = some 48 := by kernel_rfl
theorem kc5 : Tryd.prog.cellsOf 39 = 1 := by kernel_rfl
theorem kc48 : Tryd.prog.cellsOf 48 = 64 := by kernel_rfl

theorem keys_of_laid {W : World} (h : laidMetH Tryd.prog Rows.shaIsRow.laid W) : KeysAt W := by
  rw [MakeChecks.laidMetH_plain _ _ _ (by kernel_rfl)] at h
  have h3 := keys_eq ▸ laidMet.reads h (List.Mem.head _)
  obtain ⟨g, t, cs, fuel, p, hg, hty, hvar, hd⟩ := h3
  obtain rfl := Option.some.inj (kn.symm.trans hg)
  obtain rfl := Option.some.inj (ky.symm.trans hty)
  have hcs := cells_of_tab Tryd.underlying48 Tryd.underlying39 kc5 kc48 hd
  have hc : ∀ j, j < 64 → W.cell? ⟨0, j, none⟩ = some (.int .u32 ((K64.getD j 0 : Nat) : Int)) := fun j hj => by
    rw [World.var?_cell hg hvar j, ← Array.getElem?_toList, hcs, List.getElem?_map, List.getElem?_map, List.getElem?_eq_getElem (by rw [k64_len]; exact hj)]
    simp [List.getD_eq_getElem?_getD, List.getElem?_eq_getElem (show j < K64.length by rw [k64_len]; exact hj)]
  exact ⟨World.block_lt_of_cell? W _ (hc 0 (by decide)), hc⟩

set_option maxRecDepth 100000 in
theorem door_met (os : Os) (args : Array Value) : laidMetH Tryd.prog Rows.shaIsRow.laid ((World.laidAll Tryd.prog os Rows.shaIsRow.laid).forCall (fun _ _ => 0) ⟨#[], args, []⟩).memory := by
  rw [MakeChecks.laidMetH_plain _ _ _ (by kernel_rfl)]; exact laidMet_laidAll _ (by kernel_rfl) (by kernel_rfl)
end Go.Proofs.YtbenegkhekofmaaDoor
