/- Plain: a tree's bytes, read; An entry is put together of its parts; Walks: a tree's bytes, read by the code; Walks: a tree's bytes, read by the document. -/
import Derived.Test.YtdhaanaenklleaaGreatDoorXN2
import Derived.Test.YtdhaanaenklleaaGreatDoorXN1
import Derived.Test.YtdhaanaenklleaaGreatDoorXSJo
import Derived.Test.YtdhaanaenklleaaGreatDoorXSx
import Derived.Test.YtdhaanaenklleaaGreatDoorXSJk
import Derived.Laws.Tables
import Derived.Great.BuildSlice
import Derived.Laws.BitsLemmas
namespace Go.Proofs.YtdhaanaenklleaaGreatDoor
set_option linter.unusedVariables false
set_option linter.unusedSimpArgs false
open Go.ChangeShapes Go.WideShapes Go.ChangeAt Go.RowKit

theorem sjoin_size (ss : List ByteArray) : (S.joinB ss).size = 8 + 8 * ss.length + S.total ss := by
  rw [Lib.size_eq, S.joinB_list, List.length_append, S.numB_len, S.partsL_len]; omega
end Go.Proofs.YtdhaanaenklleaaGreatDoor
namespace Go.Proofs.YtdhaanaenklleaaGreatDoor
set_option linter.unusedVariables false
set_option linter.unusedSimpArgs false
open Go.ChangeShapes Go.WideShapes Go.ChangeAt Go.RowKit

theorem foldl_get (off : Nat) : ∀ (l : List Value) (k : Nat) (cs : Array Value) (i : Nat), ((l.zipIdx k).foldl (fun (cs : Array Value) (x : Value × Nat) => cs.setIfInBounds (off + x.2) x.1) cs)[i]? = if off + k ≤ i ∧ i < off + k + l.length ∧ i < cs.size then l[i - off - k]? else cs[i]?
  | [], k, cs, i => by
    simp only [List.zipIdx_nil, List.foldl_nil, List.length_nil]
    rw [if_neg (by omega)]
  | c :: l, k, cs, i => by
    rw [List.zipIdx_cons, List.foldl_cons, foldl_get off l (k + 1)]
    simp only [Array.size_setIfInBounds, List.length_cons]
    by_cases h1 : off + (k + 1) ≤ i ∧ i < off + (k + 1) + l.length ∧ i < cs.size
    · rw [if_pos h1, if_pos (by omega), show i - off - k = (i - off - (k + 1)) + 1 by omega, List.getElem?_cons_succ]
    · rw [if_neg h1, Array.getElem?_setIfInBounds]
      by_cases h2 : off + k = i
      · by_cases h3 : i < cs.size
        · rw [if_pos h2, if_pos (by omega), if_pos (by omega), show i - off - k = 0 by omega]; rfl
        · rw [if_pos h2, if_neg (by omega), if_neg (by omega), Array.getElem?_eq_none (by omega)]
      · rw [if_neg h2, if_neg (by omega)]
theorem built_ent (parts : List (Nat × Value)) : Tryz.prog.built 58 parts = Instr.fill (fun i => (#[(0, 1), (1, 1), (2, 32)] : Array (Nat × Nat))[i]?) #[.string ⟨#[]⟩, .bool false, .int .u8 0, .int .u8 0, .int .u8 0, .int .u8 0, .int .u8 0, .int .u8 0, .int .u8 0, .int .u8 0, .int .u8 0, .int .u8 0, .int .u8 0, .int .u8 0, .int .u8 0, .int .u8 0, .int .u8 0, .int .u8 0, .int .u8 0, .int .u8 0, .int .u8 0, .int .u8 0, .int .u8 0, .int .u8 0, .int .u8 0, .int .u8 0, .int .u8 0, .int .u8 0, .int .u8 0, .int .u8 0, .int .u8 0, .int .u8 0, .int .u8 0, .int .u8 0] parts := by kernel_rfl
theorem build_ent (w : World) (z : ByteArray) (td : Bool) (dv : List UInt8) (h : dv.length = 32) :
    (Instr.build 58 #[(0, .string z), (1, .bool td), (2, .agg (bytV dv).toArray)]).run Tryz.prog w = .ok (.agg (entV (z, td, dv, ())).toArray) w := by
  refine run_build w 58 _ _ ?_
  rw [built_ent]
  have hb : (bytV dv).length = 32 := by rw [bytV_len, h]
  have e : (Value.agg (bytV dv).toArray).cells = (bytV dv).toArray := rfl
  have e1 : (Value.string z).cells = #[.string z] := rfl
  have e2 : (Value.bool td).cells = #[.bool td] := rfl
  simp only [Instr.fill, e, e1, e2, List.size_toArray, hb]
  simp
  apply Array.ext_getElem?
  intro i
  have hf := foldl_get 2 (bytV dv) 0 (#[.string z, .bool td, .int .u8 0, .int .u8 0, .int .u8 0, .int .u8 0, .int .u8 0, .int .u8 0, .int .u8 0, .int .u8 0, .int .u8 0, .int .u8 0, .int .u8 0, .int .u8 0, .int .u8 0, .int .u8 0, .int .u8 0, .int .u8 0, .int .u8 0, .int .u8 0, .int .u8 0, .int .u8 0, .int .u8 0, .int .u8 0, .int .u8 0, .int .u8 0, .int .u8 0, .int .u8 0, .int .u8 0, .int .u8 0, .int .u8 0, .int .u8 0, .int .u8 0, .int .u8 0] : Array Value) i
  rw [hf]
  rw [hb]
  match i with
  | 0 => simp [entV]
  | 1 => simp [entV]
  | i + 2 =>
    by_cases hi : i < 32
    · rw [if_pos ⟨by omega, by omega, by simp; omega⟩]
      simp [entV]
    · rw [if_neg (by omega), Array.getElem?_eq_none (by simp; omega), List.getElem?_toArray, entV, List.getElem?_cons_succ, List.getElem?_cons_succ, List.getElem?_eq_none (by show (bytV dv).length ≤ i; omega)]
theorem fill_one (zero : Array Value) (l : List Value) (n : Nat) (hx : l.length = n) (hz : zero.size = n) : Instr.fill (fun i => some (i * n, n)) zero [(0, .agg l.toArray)] = some l.toArray := by
  have e : (Value.agg l.toArray).cells = l.toArray := rfl
  simp only [Instr.fill, e, List.size_toArray, hx]
  simp [hz]
  apply Array.ext_getElem?
  intro i
  have hf := foldl_get 0 l 0 zero i
  simp only [Nat.zero_add, Nat.add_zero, Nat.sub_zero] at hf
  rw [hf]
  by_cases hi : i < n
  · rw [if_pos ⟨by omega, by omega, by omega⟩, List.getElem?_toArray]
  · rw [if_neg (by omega), Array.getElem?_eq_none (by omega), Array.getElem?_eq_none (by simp; omega)]
theorem slice_one {t e : TypeId} {n by_ : Nat} {X : Type} {fl : X → List Value} (E : Elt t e n by_ fl) (w : World) (x : X) (hx : (fl x).length = n) (hn : n ≤ 16777216) :
    (Instr.buildSlice t 1 #[(0, .agg (fl x).toArray)]).run Tryz.prog w = .ok (.slice (some ⟨w.heap.size, 0, none⟩) 1 1) (w.alloc (.cells (fl x).toArray e)) := by
  obtain ⟨i, z, hi, hz, h1, h2, h3⟩ := E.inf
  have hp := E.pos
  refine run_buildSlice w t e 1 _ _ i z E.tu hi hz (by rw [h1]; omega) (by rw [h1]; omega) ?_
  rw [h1]
  exact fill_one _ _ n hx (by simp)
end Go.Proofs.YtdhaanaenklleaaGreatDoor
namespace Go.Proofs.YtdhaanaenklleaaGreatDoor
set_option linter.unusedVariables false
set_option linter.unusedSimpArgs false
open Go.ChangeShapes Go.WideShapes Go.ChangeAt Go.RowKit

end Go.Proofs.YtdhaanaenklleaaGreatDoor
namespace Go.Proofs.YtdhaanaenklleaaGreatDoor
set_option linter.unusedVariables false
set_option linter.unusedSimpArgs false
open Go.ChangeShapes Go.WideShapes Go.ChangeAt Go.RowKit

end Go.Proofs.YtdhaanaenklleaaGreatDoor
