/- What the listed variables give the walks: the tables of package utf8; that the door's own heap meets the condition. -/
import Derived.Test.YtejogobhnbjpdaaDoorSh
import Derived.Test.YtejogobhnbjpdaaDoorRows
import Derived.Lib.LaidU8T
import Derived.LaidMore
import Derived.Lay
import Derived.Stop.Joined
import Derived.ProofKit
namespace Go.Proofs.YtejogobhnbjpdaaDoor
open Go.ChangeShapes Go.WideShapes Go.RowKit Go.Lib

theorem u8x : U8Extra Tryd.prog Tryd.lays260_ren := ⟨by kernel_rfl, by kernel_rfl, by kernel_rfl, by kernel_rfl, by kernel_rfl, by kernel_rfl, by kernel_rfl⟩
theorem first_eq : Rows.laid_unicode_utf8_first = firstData := by kernel_rfl
theorem accept_eq : (Rows.laid_unicode_utf8_acceptRanges : DataW Unit) = acceptData := by kernel_rfl

theorem tabs_of_laid {W : World} (h : laidMetH Tryd.prog Rows.golexIsRow.laid W) : Lib.Utf8Tabs 1 2 W := by
  rw [MakeChecks.laidMetH_plain _ _ _ (by kernel_rfl)] at h
  exact utf8Tabs_of_reads Tryd.lays260 u8x (first_eq ▸ laidMet.reads h (List.Mem.tail _ (List.Mem.head _))) (accept_eq ▸ laidMet.reads h (List.Mem.head _))

set_option maxRecDepth 100000 in
theorem door_met (os : Os) (args : Array Value) : laidMetH Tryd.prog Rows.golexIsRow.laid ((World.laidAll Tryd.prog os Rows.golexIsRow.laid).forCall (fun _ _ => 0) ⟨#[], args, []⟩).memory := by
  rw [MakeChecks.laidMetH_plain _ _ _ (by kernel_rfl)]; exact laidMet_laidAll _ (by kernel_rfl) (by kernel_rfl)
end Go.Proofs.YtejogobhnbjpdaaDoor
