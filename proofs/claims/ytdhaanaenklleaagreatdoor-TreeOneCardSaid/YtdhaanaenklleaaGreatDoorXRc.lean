/- Walks: the names of things, by the code and by the document. -/
import Derived.Test.YtdhaanaenklleaaGreatDoorXN6
import Derived.Test.YtdhaanaenklleaaGreatDoorXSy
import Derived.Lib.ConvBytes
namespace Go.Proofs.YtdhaanaenklleaaGreatDoor
set_option linter.unusedVariables false
set_option linter.unusedSimpArgs false
open Go.ChangeShapes Go.WideShapes Go.ChangeAt Go.RowKit

/-- The digest of a text for a purpose. -/
def dg (k s : ByteArray) : List Nat := S.shaL (S.bytesL (S.joinB [k, s]))
theorem dg_len (k s : ByteArray) : (dg k s).length = 32 := S.shaL_len _
theorem dg_small (k s : ByteArray) : S.Small 256 (dg k s) := S.shaL_small _
theorem size37 (l : List Nat) (h : l.length = 32) : (Tryz.prog.info? 32).map (·.size) = some (S.ints .u8 l).size := by rw [S.ints_size, h]; kernel_rfl
theorem strs_cells {w : World} {B : Nat} {zs : List ByteArray} (h : w.heap[B]? = some (.cells (zs.map Value.string).toArray 9 (0, 0))) (hm : zs.length ≤ maxLen) : Strs w (.slice (some ⟨B, 0, none⟩) zs.length zs.length) zs := by
  refine .inr ⟨B, 0, zs.length, rfl, Nat.le_refl _, hm, (Array.getElem?_eq_some_iff.1 h).1, fun i hi => ?_⟩
  simp [World.cell?, h, hi, List.getD_eq_getElem?_getD]
/-- The call's result cell, of 32 bytes. -/
structure Res37 (w x : World) : Prop where
  at_ : ∃ cs, x.heap[w.heap.size]? = some (.cells cs 32 (0, 0)) ∧ cs.size = 32
  b : Below w.heap.size w x
theorem Res37.below {w x y : World} (h : Res37 w x) (hB : Below x.heap.size x y) : Res37 w y := by
  obtain ⟨cs, h1, h2⟩ := h.at_
  exact ⟨⟨cs, (hB.block _ (Array.getElem?_eq_some_iff.1 h1).1).trans h1, h2⟩, h.b.trans (hB.mono h.b.size)⟩
theorem Res37.made (w : World) (cs : Array Value) (h : cs.size = 32) : Res37 w (w.alloc (.cells cs 32)) := ⟨⟨cs, heap_alloc_new _ _, h⟩, (Below.refl _ _).alloc (Nat.le_refl _) _⟩
theorem total_two (k s : ByteArray) : S.total [k, s] = k.size + s.size := by simp [S.total]

set_option maxRecDepth 100000 in
set_option maxHeartbeats 4000000 in
theorem name30_any (s : ByteArray) (w : World) (hK : S.KeysAt w) (hs : s.size ≤ 4096) : Calls Tryz.prog 17 #[.string s] w fun e w' => e = .returned (.agg (S.ints .u8 (dg ⟨#[98, 108, 111, 98]⟩ s))) ∧ Below w.heap.size w w' := by
  have HB := Lib.hid (((Below.refl w.heap.size w).alloc (Nat.le_refl _) (.cells #[.int .u8 0, .int .u8 0, .int .u8 0, .int .u8 0, .int .u8 0, .int .u8 0, .int .u8 0, .int .u8 0, .int .u8 0, .int .u8 0, .int .u8 0, .int .u8 0, .int .u8 0, .int .u8 0, .int .u8 0, .int .u8 0, .int .u8 0, .int .u8 0, .int .u8 0, .int .u8 0, .int .u8 0, .int .u8 0, .int .u8 0, .int .u8 0, .int .u8 0, .int .u8 0, .int .u8 0, .int .u8 0, .int .u8 0, .int .u8 0, .int .u8 0, .int .u8 0] 32)).alloc (by simp) (.cells #[.string s] 9))
  have HR := Lib.hid ((Res37.made w #[.int .u8 0, .int .u8 0, .int .u8 0, .int .u8 0, .int .u8 0, .int .u8 0, .int .u8 0, .int .u8 0, .int .u8 0, .int .u8 0, .int .u8 0, .int .u8 0, .int .u8 0, .int .u8 0, .int .u8 0, .int .u8 0, .int .u8 0, .int .u8 0, .int .u8 0, .int .u8 0, .int .u8 0, .int .u8 0, .int .u8 0, .int .u8 0, .int .u8 0, .int .u8 0, .int .u8 0, .int .u8 0, .int .u8 0, .int .u8 0, .int .u8 0, .int .u8 0] rfl).below ((Below.refl _ _).alloc (Nat.le_refl _) (.cells #[.string s] 9)))
  have HS := Lib.hid (S.sum_any ⟨#[98, 108, 111, 98]⟩ (.slice (some ⟨w.heap.size + 1, 0, none⟩) 1 1) [s] ((w.alloc (.cells #[.int .u8 0, .int .u8 0, .int .u8 0, .int .u8 0, .int .u8 0, .int .u8 0, .int .u8 0, .int .u8 0, .int .u8 0, .int .u8 0, .int .u8 0, .int .u8 0, .int .u8 0, .int .u8 0, .int .u8 0, .int .u8 0, .int .u8 0, .int .u8 0, .int .u8 0, .int .u8 0, .int .u8 0, .int .u8 0, .int .u8 0, .int .u8 0, .int .u8 0, .int .u8 0, .int .u8 0, .int .u8 0, .int .u8 0, .int .u8 0, .int .u8 0, .int .u8 0] 32)).alloc (.cells #[.string s] 9)) (hK.below hK.1 HB.out)
    (strs_cells (zs := [s]) (by have h := heap_alloc_new (w.alloc (.cells #[.int .u8 0, .int .u8 0, .int .u8 0, .int .u8 0, .int .u8 0, .int .u8 0, .int .u8 0, .int .u8 0, .int .u8 0, .int .u8 0, .int .u8 0, .int .u8 0, .int .u8 0, .int .u8 0, .int .u8 0, .int .u8 0, .int .u8 0, .int .u8 0, .int .u8 0, .int .u8 0, .int .u8 0, .int .u8 0, .int .u8 0, .int .u8 0, .int .u8 0, .int .u8 0, .int .u8 0, .int .u8 0, .int .u8 0, .int .u8 0, .int .u8 0, .int .u8 0] 32)) (.cells #[.string s] 9); simpa using h) (by unfold maxLen; simp)) (by rw [total_two]; exact Nat.le_trans (Nat.add_le_add (show (⟨#[98, 108, 111, 98]⟩ : ByteArray).size ≤ 6 by decide) hs) (by omega)) (by simp))
  clear HB hK
  go_enter Tryz.func17, Tryz.ntmps17
  go_wp2_with fail
  refine HS.out.mono ?_
  rintro e w1 ⟨rfl, hB1⟩
  obtain ⟨cs, hcs, hcz⟩ := (HR.out.below hB1).at_
  have HB1 := Lib.hid (HR.out.below hB1).b
  have hd : S.shaL (S.bytesL (S.joinB (⟨#[98, 108, 111, 98]⟩ :: [s]))) = dg ⟨#[98, 108, 111, 98]⟩ s := rfl
  rw [hd]
  have Hz := Lib.hid (size37 _ (dg_len ⟨#[98, 108, 111, 98]⟩ s))
  have Hone := Lib.hid (S.ints_one .u8 (dg ⟨#[98, 108, 111, 98]⟩ s))
  have Hs := Lib.hid (show (S.ints .u8 (dg ⟨#[98, 108, 111, 98]⟩ s)).size = 32 by rw [S.ints_size, dg_len])
  obtain ⟨R, hRe⟩ : ∃ R, R = S.ints .u8 (dg ⟨#[98, 108, 111, 98]⟩ s) := ⟨_, rfl⟩
  rw [← hRe] at Hz Hone Hs ⊢
  have HRe := Lib.hid hRe
  clear hRe
  clear hB1 hd HS HR
  go_wp2_with (first | (refine wpList_store_rowTo rfl 32 _ _ rfl rfl w.heap.size R rfl rfl 32 cs hcs Hz.out (by rw [hcz, Hs.out]) Hone.out ?_))
  exact bodyPost_ret (v := .agg R) (results_cell_row (fr := (0, 0)) rfl _ _ w.heap.size 32 _ _ rfl (setRow_heap _ _ _ R 32 (0, 0) hcs) Tryz.underlying32 rfl Hz.out) rfl ⟨by rw [HRe.out], below_setRow HB1.out (Nat.le_refl _) R⟩

end Go.Proofs.YtdhaanaenklleaaGreatDoor
