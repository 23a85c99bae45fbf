/- Walks: the names of things, by the code and by the document. -/
import Derived.Test.YtdhaanaenklleaaDoorN6
import Derived.Test.YtdhaanaenklleaaDoorSy
import Derived.Lib.ConvBytes
namespace Go.Proofs.YtdhaanaenklleaaDoor
set_option linter.unusedVariables false
set_option linter.unusedSimpArgs false
open Go.ChangeShapes Go.WideShapes Go.ChangeAt Go.RowKit

/-- The digest of a text for a purpose. -/
def dg (k s : ByteArray) : List Nat := S.shaL (S.bytesL (S.joinB [k, s]))
theorem dg_len (k s : ByteArray) : (dg k s).length = 32 := S.shaL_len _
theorem dg_small (k s : ByteArray) : S.Small 256 (dg k s) := S.shaL_small _
theorem ky37 : Tryd.prog.keyTypeAt 2 37 = true := by kernel_rfl
theorem co5' : Tryd.prog.cellsOf 5 = 1 := by kernel_rfl
theorem co37 : Tryd.prog.cellsOf 37 = 32 := by kernel_rfl
theorem eq37 (a b : List Nat) (ha : a.length = 32) (hb : b.length = 32) (hsa : S.Small 256 a) (hsb : S.Small 256 b) (w : World) : (Op.equalIn 10000 37 (.agg (S.ints .u8 a)) (.agg (S.ints .u8 b))).run Tryd.prog w = .ok (decide (a = b)) w :=
  S.eq_rows 37 5 32 Tryd.underlying37 Tryd.underlying5 co5' co37 ky37 a b ha hb hsa hsb w
theorem size37 (l : List Nat) (h : l.length = 32) : (Tryd.prog.info? 37).map (·.size) = some (S.ints .u8 l).size := by rw [S.ints_size, h]; kernel_rfl
theorem strs_cells {w : World} {B : Nat} {zs : List ByteArray} (h : w.heap[B]? = some (.cells (zs.map Value.string).toArray 9 (0, 0))) (hm : zs.length ≤ maxLen) : Strs w (.slice (some ⟨B, 0, none⟩) zs.length zs.length) zs := by
  refine .inr ⟨B, 0, zs.length, rfl, Nat.le_refl _, hm, (Array.getElem?_eq_some_iff.1 h).1, fun i hi => ?_⟩
  simp [World.cell?, h, hi, List.getD_eq_getElem?_getD]
theorem conv_made (s : ByteArray) (w : World) (hs : s.size ≤ 9223372036854775807) : ∃ v w', (convert 9 59 (.string s)).run Tryd.prog w = .ok v w' ∧ S.BytsN w' v (S.bytesL s) ∧ Below w.heap.size w w' := by
  refine ⟨_, _, Lib.run_convert_string_bytes w 9 59 5 s Tryd.underlying9 Tryd.underlying59 Tryd.underlying5, ?_, ?_⟩
  · have hl := S.bytesL_len s
    refine .inr (.inr ⟨w.heap.size, 0, grownCap w s.size 0 5, by rw [hl], by rw [hl]; exact grownCap_ge _ _ _ _, grownCap_le_maxLen _ _ _ _ (by unfold maxLen; omega), by rw [Lib.bytesWorld_size]; omega, fun i hi => ?_⟩)
    rw [hl] at hi
    rw [Nat.zero_add, Lib.bytesWorld_cell _ _ _ _ hi]
    have hi2 : i < s.data.toList.length := by rw [← Lib.size_eq]; exact hi
    simp only [S.bytesL, List.getD_eq_getElem?_getD, List.getElem?_map, List.getElem?_eq_getElem hi2, Option.map_some, Option.getD_some]
  · exact ⟨by simp [Lib.bytesWorld, World.freeze, World.alloc, World.drew, -World.alloc_eq, -World.drew_eq], by simp [Lib.bytesWorld, World.freeze, World.alloc, World.drew, -World.alloc_eq, -World.drew_eq], by simp [Lib.bytesWorld, World.freeze, World.alloc, World.drew, -World.alloc_eq, -World.drew_eq], by rw [Lib.bytesWorld_size]; omega, fun k hk => Lib.bytesWorld_at_old _ _ _ _ hk⟩
/-- The call's result cell, of 32 bytes. -/
structure Res37 (w x : World) : Prop where
  at_ : ∃ cs, x.heap[w.heap.size]? = some (.cells cs 37 (0, 0)) ∧ cs.size = 32
  b : Below w.heap.size w x
theorem Res37.below {w x y : World} (h : Res37 w x) (hB : Below x.heap.size x y) : Res37 w y := by
  obtain ⟨cs, h1, h2⟩ := h.at_
  exact ⟨⟨cs, (hB.block _ (Array.getElem?_eq_some_iff.1 h1).1).trans h1, h2⟩, h.b.trans (hB.mono h.b.size)⟩
theorem Res37.made (w : World) (cs : Array Value) (h : cs.size = 32) : Res37 w (w.alloc (.cells cs 37)) := ⟨⟨cs, heap_alloc_new _ _, h⟩, (Below.refl _ _).alloc (Nat.le_refl _) _⟩
theorem total_two (k s : ByteArray) : S.total [k, s] = k.size + s.size := by simp [S.total]

set_option maxRecDepth 100000 in
set_option maxHeartbeats 4000000 in
theorem name30_any (s : ByteArray) (w : World) (hK : S.KeysAt w) (hs : s.size ≤ 4096) : Calls Tryd.prog 30 #[.string s] w fun e w' => e = .returned (.agg (S.ints .u8 (dg ⟨#[98, 108, 111, 98]⟩ s))) ∧ Below w.heap.size w w' := by
  have HB := Lib.hid (((Below.refl w.heap.size w).alloc (Nat.le_refl _) (.cells #[.int .u8 0, .int .u8 0, .int .u8 0, .int .u8 0, .int .u8 0, .int .u8 0, .int .u8 0, .int .u8 0, .int .u8 0, .int .u8 0, .int .u8 0, .int .u8 0, .int .u8 0, .int .u8 0, .int .u8 0, .int .u8 0, .int .u8 0, .int .u8 0, .int .u8 0, .int .u8 0, .int .u8 0, .int .u8 0, .int .u8 0, .int .u8 0, .int .u8 0, .int .u8 0, .int .u8 0, .int .u8 0, .int .u8 0, .int .u8 0, .int .u8 0, .int .u8 0] 37)).alloc (by simp) (.cells #[.string s] 9))
  have HR := Lib.hid ((Res37.made w #[.int .u8 0, .int .u8 0, .int .u8 0, .int .u8 0, .int .u8 0, .int .u8 0, .int .u8 0, .int .u8 0, .int .u8 0, .int .u8 0, .int .u8 0, .int .u8 0, .int .u8 0, .int .u8 0, .int .u8 0, .int .u8 0, .int .u8 0, .int .u8 0, .int .u8 0, .int .u8 0, .int .u8 0, .int .u8 0, .int .u8 0, .int .u8 0, .int .u8 0, .int .u8 0, .int .u8 0, .int .u8 0, .int .u8 0, .int .u8 0, .int .u8 0, .int .u8 0] rfl).below ((Below.refl _ _).alloc (Nat.le_refl _) (.cells #[.string s] 9)))
  have HS := Lib.hid (S.sum_any ⟨#[98, 108, 111, 98]⟩ (.slice (some ⟨w.heap.size + 1, 0, none⟩) 1 1) [s] ((w.alloc (.cells #[.int .u8 0, .int .u8 0, .int .u8 0, .int .u8 0, .int .u8 0, .int .u8 0, .int .u8 0, .int .u8 0, .int .u8 0, .int .u8 0, .int .u8 0, .int .u8 0, .int .u8 0, .int .u8 0, .int .u8 0, .int .u8 0, .int .u8 0, .int .u8 0, .int .u8 0, .int .u8 0, .int .u8 0, .int .u8 0, .int .u8 0, .int .u8 0, .int .u8 0, .int .u8 0, .int .u8 0, .int .u8 0, .int .u8 0, .int .u8 0, .int .u8 0, .int .u8 0] 37)).alloc (.cells #[.string s] 9)) (hK.below hK.1 HB.out)
    (strs_cells (zs := [s]) (by have h := heap_alloc_new (w.alloc (.cells #[.int .u8 0, .int .u8 0, .int .u8 0, .int .u8 0, .int .u8 0, .int .u8 0, .int .u8 0, .int .u8 0, .int .u8 0, .int .u8 0, .int .u8 0, .int .u8 0, .int .u8 0, .int .u8 0, .int .u8 0, .int .u8 0, .int .u8 0, .int .u8 0, .int .u8 0, .int .u8 0, .int .u8 0, .int .u8 0, .int .u8 0, .int .u8 0, .int .u8 0, .int .u8 0, .int .u8 0, .int .u8 0, .int .u8 0, .int .u8 0, .int .u8 0, .int .u8 0] 37)) (.cells #[.string s] 9); simpa using h) (by unfold maxLen; simp)) (by rw [total_two]; exact Nat.le_trans (Nat.add_le_add (show (⟨#[98, 108, 111, 98]⟩ : ByteArray).size ≤ 6 by decide) hs) (by omega)) (by simp))
  clear HB hK
  go_enter Tryd.func30, Tryd.ntmps30
  go_wp2_with fail
  refine HS.out.mono ?_
  rintro e w1 ⟨rfl, hB1⟩
  obtain ⟨cs, hcs, hcz⟩ := (HR.out.below hB1).at_
  have HB1 := Lib.hid (HR.out.below hB1).b
  have hd : S.shaL (S.bytesL (S.joinB (⟨#[98, 108, 111, 98]⟩ :: [s]))) = dg ⟨#[98, 108, 111, 98]⟩ s := rfl
  rw [hd]
  have Hz := Lib.hid (size37 _ (dg_len ⟨#[98, 108, 111, 98]⟩ s))
  have Hone := Lib.hid (S.ints_one .u8 (dg ⟨#[98, 108, 111, 98]⟩ s))
  have Hs := Lib.hid (show (S.ints .u8 (dg ⟨#[98, 108, 111, 98]⟩ s)).size = 32 by rw [S.ints_size, dg_len])
  obtain ⟨R, hRe⟩ : ∃ R, R = S.ints .u8 (dg ⟨#[98, 108, 111, 98]⟩ s) := ⟨_, rfl⟩
  rw [← hRe] at Hz Hone Hs ⊢
  have HRe := Lib.hid hRe
  clear hRe
  clear hB1 hd HS HR
  go_wp2_with (first | (refine wpList_store_rowTo rfl 37 _ _ rfl rfl w.heap.size R rfl rfl 37 cs hcs Hz.out (by rw [hcz, Hs.out]) Hone.out ?_))
  exact bodyPost_ret (v := .agg R) (results_cell_row (fr := (0, 0)) rfl _ _ w.heap.size 37 _ _ rfl (setRow_heap _ _ _ R 37 (0, 0) hcs) Tryd.underlying37 rfl Hz.out) rfl ⟨by rw [HRe.out], below_setRow HB1.out (Nat.le_refl _) R⟩

set_option maxRecDepth 100000 in
set_option maxHeartbeats 4000000 in
theorem name31_any (s : ByteArray) (w : World) (hK : S.KeysAt w) (hs : s.size ≤ 4096) : Calls Tryd.prog 31 #[.string s] w fun e w' => e = .returned (.agg (S.ints .u8 (dg ⟨#[116, 114, 101, 101]⟩ s))) ∧ Below w.heap.size w w' := by
  have HB := Lib.hid (((Below.refl w.heap.size w).alloc (Nat.le_refl _) (.cells #[.int .u8 0, .int .u8 0, .int .u8 0, .int .u8 0, .int .u8 0, .int .u8 0, .int .u8 0, .int .u8 0, .int .u8 0, .int .u8 0, .int .u8 0, .int .u8 0, .int .u8 0, .int .u8 0, .int .u8 0, .int .u8 0, .int .u8 0, .int .u8 0, .int .u8 0, .int .u8 0, .int .u8 0, .int .u8 0, .int .u8 0, .int .u8 0, .int .u8 0, .int .u8 0, .int .u8 0, .int .u8 0, .int .u8 0, .int .u8 0, .int .u8 0, .int .u8 0] 37)).alloc (by simp) (.cells #[.string s] 9))
  have HR := Lib.hid ((Res37.made w #[.int .u8 0, .int .u8 0, .int .u8 0, .int .u8 0, .int .u8 0, .int .u8 0, .int .u8 0, .int .u8 0, .int .u8 0, .int .u8 0, .int .u8 0, .int .u8 0, .int .u8 0, .int .u8 0, .int .u8 0, .int .u8 0, .int .u8 0, .int .u8 0, .int .u8 0, .int .u8 0, .int .u8 0, .int .u8 0, .int .u8 0, .int .u8 0, .int .u8 0, .int .u8 0, .int .u8 0, .int .u8 0, .int .u8 0, .int .u8 0, .int .u8 0, .int .u8 0] rfl).below ((Below.refl _ _).alloc (Nat.le_refl _) (.cells #[.string s] 9)))
  have HS := Lib.hid (S.sum_any ⟨#[116, 114, 101, 101]⟩ (.slice (some ⟨w.heap.size + 1, 0, none⟩) 1 1) [s] ((w.alloc (.cells #[.int .u8 0, .int .u8 0, .int .u8 0, .int .u8 0, .int .u8 0, .int .u8 0, .int .u8 0, .int .u8 0, .int .u8 0, .int .u8 0, .int .u8 0, .int .u8 0, .int .u8 0, .int .u8 0, .int .u8 0, .int .u8 0, .int .u8 0, .int .u8 0, .int .u8 0, .int .u8 0, .int .u8 0, .int .u8 0, .int .u8 0, .int .u8 0, .int .u8 0, .int .u8 0, .int .u8 0, .int .u8 0, .int .u8 0, .int .u8 0, .int .u8 0, .int .u8 0] 37)).alloc (.cells #[.string s] 9)) (hK.below hK.1 HB.out)
    (strs_cells (zs := [s]) (by have h := heap_alloc_new (w.alloc (.cells #[.int .u8 0, .int .u8 0, .int .u8 0, .int .u8 0, .int .u8 0, .int .u8 0, .int .u8 0, .int .u8 0, .int .u8 0, .int .u8 0, .int .u8 0, .int .u8 0, .int .u8 0, .int .u8 0, .int .u8 0, .int .u8 0, .int .u8 0, .int .u8 0, .int .u8 0, .int .u8 0, .int .u8 0, .int .u8 0, .int .u8 0, .int .u8 0, .int .u8 0, .int .u8 0, .int .u8 0, .int .u8 0, .int .u8 0, .int .u8 0, .int .u8 0, .int .u8 0] 37)) (.cells #[.string s] 9); simpa using h) (by unfold maxLen; simp)) (by rw [total_two]; exact Nat.le_trans (Nat.add_le_add (show (⟨#[116, 114, 101, 101]⟩ : ByteArray).size ≤ 6 by decide) hs) (by omega)) (by simp))
  clear HB hK
  go_enter Tryd.func31, Tryd.ntmps31
  go_wp2_with fail
  refine HS.out.mono ?_
  rintro e w1 ⟨rfl, hB1⟩
  obtain ⟨cs, hcs, hcz⟩ := (HR.out.below hB1).at_
  have HB1 := Lib.hid (HR.out.below hB1).b
  have hd : S.shaL (S.bytesL (S.joinB (⟨#[116, 114, 101, 101]⟩ :: [s]))) = dg ⟨#[116, 114, 101, 101]⟩ s := rfl
  rw [hd]
  have Hz := Lib.hid (size37 _ (dg_len ⟨#[116, 114, 101, 101]⟩ s))
  have Hone := Lib.hid (S.ints_one .u8 (dg ⟨#[116, 114, 101, 101]⟩ s))
  have Hs := Lib.hid (show (S.ints .u8 (dg ⟨#[116, 114, 101, 101]⟩ s)).size = 32 by rw [S.ints_size, dg_len])
  obtain ⟨R, hRe⟩ : ∃ R, R = S.ints .u8 (dg ⟨#[116, 114, 101, 101]⟩ s) := ⟨_, rfl⟩
  rw [← hRe] at Hz Hone Hs ⊢
  have HRe := Lib.hid hRe
  clear hRe
  clear hB1 hd HS HR
  go_wp2_with (first | (refine wpList_store_rowTo rfl 37 _ _ rfl rfl w.heap.size R rfl rfl 37 cs hcs Hz.out (by rw [hcz, Hs.out]) Hone.out ?_))
  exact bodyPost_ret (v := .agg R) (results_cell_row (fr := (0, 0)) rfl _ _ w.heap.size 37 _ _ rfl (setRow_heap _ _ _ R 37 (0, 0) hcs) Tryd.underlying37 rfl Hz.out) rfl ⟨by rw [HRe.out], below_setRow HB1.out (Nat.le_refl _) R⟩

set_option maxRecDepth 100000 in
set_option maxHeartbeats 4000000 in
theorem name32_any (s : ByteArray) (w : World) (hK : S.KeysAt w) (hs : s.size ≤ 4096) : Calls Tryd.prog 32 #[.string s] w fun e w' => e = .returned (.agg (S.ints .u8 (dg ⟨#[99, 111, 109, 109, 105, 116]⟩ s))) ∧ Below w.heap.size w w' := by
  have HB := Lib.hid (((Below.refl w.heap.size w).alloc (Nat.le_refl _) (.cells #[.int .u8 0, .int .u8 0, .int .u8 0, .int .u8 0, .int .u8 0, .int .u8 0, .int .u8 0, .int .u8 0, .int .u8 0, .int .u8 0, .int .u8 0, .int .u8 0, .int .u8 0, .int .u8 0, .int .u8 0, .int .u8 0, .int .u8 0, .int .u8 0, .int .u8 0, .int .u8 0, .int .u8 0, .int .u8 0, .int .u8 0, .int .u8 0, .int .u8 0, .int .u8 0, .int .u8 0, .int .u8 0, .int .u8 0, .int .u8 0, .int .u8 0, .int .u8 0] 37)).alloc (by simp) (.cells #[.string s] 9))
  have HR := Lib.hid ((Res37.made w #[.int .u8 0, .int .u8 0, .int .u8 0, .int .u8 0, .int .u8 0, .int .u8 0, .int .u8 0, .int .u8 0, .int .u8 0, .int .u8 0, .int .u8 0, .int .u8 0, .int .u8 0, .int .u8 0, .int .u8 0, .int .u8 0, .int .u8 0, .int .u8 0, .int .u8 0, .int .u8 0, .int .u8 0, .int .u8 0, .int .u8 0, .int .u8 0, .int .u8 0, .int .u8 0, .int .u8 0, .int .u8 0, .int .u8 0, .int .u8 0, .int .u8 0, .int .u8 0] rfl).below ((Below.refl _ _).alloc (Nat.le_refl _) (.cells #[.string s] 9)))
  have HS := Lib.hid (S.sum_any ⟨#[99, 111, 109, 109, 105, 116]⟩ (.slice (some ⟨w.heap.size + 1, 0, none⟩) 1 1) [s] ((w.alloc (.cells #[.int .u8 0, .int .u8 0, .int .u8 0, .int .u8 0, .int .u8 0, .int .u8 0, .int .u8 0, .int .u8 0, .int .u8 0, .int .u8 0, .int .u8 0, .int .u8 0, .int .u8 0, .int .u8 0, .int .u8 0, .int .u8 0, .int .u8 0, .int .u8 0, .int .u8 0, .int .u8 0, .int .u8 0, .int .u8 0, .int .u8 0, .int .u8 0, .int .u8 0, .int .u8 0, .int .u8 0, .int .u8 0, .int .u8 0, .int .u8 0, .int .u8 0, .int .u8 0] 37)).alloc (.cells #[.string s] 9)) (hK.below hK.1 HB.out)
    (strs_cells (zs := [s]) (by have h := heap_alloc_new (w.alloc (.cells #[.int .u8 0, .int .u8 0, .int .u8 0, .int .u8 0, .int .u8 0, .int .u8 0, .int .u8 0, .int .u8 0, .int .u8 0, .int .u8 0, .int .u8 0, .int .u8 0, .int .u8 0, .int .u8 0, .int .u8 0, .int .u8 0, .int .u8 0, .int .u8 0, .int .u8 0, .int .u8 0, .int .u8 0, .int .u8 0, .int .u8 0, .int .u8 0, .int .u8 0, .int .u8 0, .int .u8 0, .int .u8 0, .int .u8 0, .int .u8 0, .int .u8 0, .int .u8 0] 37)) (.cells #[.string s] 9); simpa using h) (by unfold maxLen; simp)) (by rw [total_two]; exact Nat.le_trans (Nat.add_le_add (show (⟨#[99, 111, 109, 109, 105, 116]⟩ : ByteArray).size ≤ 6 by decide) hs) (by omega)) (by simp))
  clear HB hK
  go_enter Tryd.func32, Tryd.ntmps32
  go_wp2_with fail
  refine HS.out.mono ?_
  rintro e w1 ⟨rfl, hB1⟩
  obtain ⟨cs, hcs, hcz⟩ := (HR.out.below hB1).at_
  have HB1 := Lib.hid (HR.out.below hB1).b
  have hd : S.shaL (S.bytesL (S.joinB (⟨#[99, 111, 109, 109, 105, 116]⟩ :: [s]))) = dg ⟨#[99, 111, 109, 109, 105, 116]⟩ s := rfl
  rw [hd]
  have Hz := Lib.hid (size37 _ (dg_len ⟨#[99, 111, 109, 109, 105, 116]⟩ s))
  have Hone := Lib.hid (S.ints_one .u8 (dg ⟨#[99, 111, 109, 109, 105, 116]⟩ s))
  have Hs := Lib.hid (show (S.ints .u8 (dg ⟨#[99, 111, 109, 109, 105, 116]⟩ s)).size = 32 by rw [S.ints_size, dg_len])
  obtain ⟨R, hRe⟩ : ∃ R, R = S.ints .u8 (dg ⟨#[99, 111, 109, 109, 105, 116]⟩ s) := ⟨_, rfl⟩
  rw [← hRe] at Hz Hone Hs ⊢
  have HRe := Lib.hid hRe
  clear hRe
  clear hB1 hd HS HR
  go_wp2_with (first | (refine wpList_store_rowTo rfl 37 _ _ rfl rfl w.heap.size R rfl rfl 37 cs hcs Hz.out (by rw [hcz, Hs.out]) Hone.out ?_))
  exact bodyPost_ret (v := .agg R) (results_cell_row (fr := (0, 0)) rfl _ _ w.heap.size 37 _ _ rfl (setRow_heap _ _ _ R 37 (0, 0) hcs) Tryd.underlying37 rfl Hz.out) rfl ⟨by rw [HRe.out], below_setRow HB1.out (Nat.le_refl _) R⟩

set_option maxRecDepth 100000 in
set_option maxHeartbeats 4000000 in
theorem refSum_any (k s : ByteArray) (w : World) (hk : k.size ≤ 16) (hs : s.size ≤ 4096) : Calls Tryd.prog 33 #[.string k, .string s] w fun e w' => e = .returned (.agg (S.ints .u8 (dg k s))) ∧ Below w.heap.size w w' := by
  have HR := Lib.hid ((Res37.made w #[.int .u8 0, .int .u8 0, .int .u8 0, .int .u8 0, .int .u8 0, .int .u8 0, .int .u8 0, .int .u8 0, .int .u8 0, .int .u8 0, .int .u8 0, .int .u8 0, .int .u8 0, .int .u8 0, .int .u8 0, .int .u8 0, .int .u8 0, .int .u8 0, .int .u8 0, .int .u8 0, .int .u8 0, .int .u8 0, .int .u8 0, .int .u8 0, .int .u8 0, .int .u8 0, .int .u8 0, .int .u8 0, .int .u8 0, .int .u8 0, .int .u8 0, .int .u8 0] rfl).below ((Below.refl _ _).alloc (Nat.le_refl _) (.cells #[.string k, .string s] 9)))
  have HS := Lib.hid (S.refJoin_any (.slice (some ⟨w.heap.size + 1, 0, none⟩) 2 2) [k, s] ((w.alloc (.cells #[.int .u8 0, .int .u8 0, .int .u8 0, .int .u8 0, .int .u8 0, .int .u8 0, .int .u8 0, .int .u8 0, .int .u8 0, .int .u8 0, .int .u8 0, .int .u8 0, .int .u8 0, .int .u8 0, .int .u8 0, .int .u8 0, .int .u8 0, .int .u8 0, .int .u8 0, .int .u8 0, .int .u8 0, .int .u8 0, .int .u8 0, .int .u8 0, .int .u8 0, .int .u8 0, .int .u8 0, .int .u8 0, .int .u8 0, .int .u8 0, .int .u8 0, .int .u8 0] 37)).alloc (.cells #[.string k, .string s] 9))
    (strs_cells (zs := [k, s]) (by have h := heap_alloc_new (w.alloc (.cells #[.int .u8 0, .int .u8 0, .int .u8 0, .int .u8 0, .int .u8 0, .int .u8 0, .int .u8 0, .int .u8 0, .int .u8 0, .int .u8 0, .int .u8 0, .int .u8 0, .int .u8 0, .int .u8 0, .int .u8 0, .int .u8 0, .int .u8 0, .int .u8 0, .int .u8 0, .int .u8 0, .int .u8 0, .int .u8 0, .int .u8 0, .int .u8 0, .int .u8 0, .int .u8 0, .int .u8 0, .int .u8 0, .int .u8 0, .int .u8 0, .int .u8 0, .int .u8 0] 37)) (.cells #[.string k, .string s] 9); simpa using h) (by unfold maxLen; simp)) (by rw [total_two]; omega) (by simp))
  have hsz : (S.joinB [k, s]).size ≤ 8192 := by rw [sjoin_size, total_two]; simp only [List.length_cons, List.length_nil]; omega
  have Hsz := Lib.hid hsz
  go_enter Tryd.func33, Tryd.ntmps33
  go_wp2_with fail
  refine HS.out.mono ?_
  rintro e w1 ⟨rfl, hB1⟩
  replace HR := Lib.hid (HR.out.below hB1)
  obtain ⟨v, w2, hcv, hv, hB2⟩ := conv_made (S.joinB [k, s]) w1 (by omega)
  replace HR := Lib.hid (HR.out.below hB2)
  have HO := Lib.hid (S.dof_any v (S.bytesL (S.joinB [k, s])) w2 hv (S.bytesL_small _) (by rw [S.bytesL_len]; omega))
  clear hB1 hB2 HS hv
  go_wp2_with fail
  refine HO.out.mono ?_
  rintro e w3 ⟨rfl, hB3⟩
  obtain ⟨cs, hcs, hcz⟩ := (HR.out.below hB3).at_
  have HB1 := Lib.hid (HR.out.below hB3).b
  have hd : S.shaL (S.bytesL (S.joinB [k, s])) = dg k s := rfl
  rw [hd]
  have Hz := Lib.hid (size37 _ (dg_len k s))
  have Hone := Lib.hid (S.ints_one .u8 (dg k s))
  have Hs := Lib.hid (show (S.ints .u8 (dg k s)).size = 32 by rw [S.ints_size, dg_len])
  obtain ⟨R, hRe⟩ : ∃ R, R = S.ints .u8 (dg k s) := ⟨_, rfl⟩
  rw [← hRe] at Hz Hone Hs ⊢
  have HRe := Lib.hid hRe
  clear hRe
  clear hB3 hd HO HR
  go_wp2_with (first | (refine wpList_store_rowTo rfl 37 _ _ rfl rfl w.heap.size R rfl rfl 37 cs hcs Hz.out (by rw [hcz, Hs.out]) Hone.out ?_))
  exact bodyPost_ret (v := .agg R) (results_cell_row (fr := (0, 0)) rfl _ _ w.heap.size 37 _ _ rfl (setRow_heap _ _ _ R 37 (0, 0) hcs) Tryd.underlying37 rfl Hz.out) rfl ⟨by rw [HRe.out], below_setRow HB1.out (Nat.le_refl _) R⟩
/-- The digest, as bytes. -/
def du (k s : ByteArray) : List UInt8 := (dg k s).map UInt8.ofNat
theorem du_len (k s : ByteArray) : (du k s).length = 32 := by unfold du; rw [List.length_map, dg_len]
theorem du_cells (k s : ByteArray) : S.ints .u8 (dg k s) = (bytV (du k s)).toArray := by
  unfold S.ints bytV du
  rw [List.map_map]
  congr 1
  refine List.map_congr_left fun n hn => ?_
  obtain ⟨i, hi, rfl⟩ := List.mem_iff_getElem.1 hn
  have h := dg_small k s i
  rw [List.getD_eq_getElem?_getD, List.getElem?_eq_getElem hi, Option.getD_some] at h
  show Value.int .u8 (((dg k s)[i] : Nat) : Int) = Value.int .u8 (((UInt8.ofNat (dg k s)[i]).toNat : Nat) : Int)
  rw [UInt8.toNat_ofNat', Nat.mod_eq_of_lt h]
/-- A call that answers a digest, in a class of worlds. -/
def Dig (w : World) (f : Nat) (args : Array Value) (d : List UInt8) : Prop :=
  ∀ w1, Below w.heap.size w w1 → Calls Tryd.prog f args w1 fun e w2 => e = .returned (.agg (bytV d).toArray) ∧ Below w1.heap.size w1 w2
theorem dig30 {w : World} (hK : S.KeysAt w) (s : ByteArray) (hs : s.size ≤ 4096) : Dig w 30 #[.string s] (du ⟨#[98, 108, 111, 98]⟩ s) := fun w1 h => by rw [← du_cells]; exact name30_any s w1 (hK.below hK.1 h) hs
theorem dig31 {w : World} (hK : S.KeysAt w) (s : ByteArray) (hs : s.size ≤ 4096) : Dig w 31 #[.string s] (du ⟨#[116, 114, 101, 101]⟩ s) := fun w1 h => by rw [← du_cells]; exact name31_any s w1 (hK.below hK.1 h) hs
theorem dig32 {w : World} (hK : S.KeysAt w) (s : ByteArray) (hs : s.size ≤ 4096) : Dig w 32 #[.string s] (du ⟨#[99, 111, 109, 109, 105, 116]⟩ s) := fun w1 h => by rw [← du_cells]; exact name32_any s w1 (hK.below hK.1 h) hs
theorem dig33 (w : World) (k s : ByteArray) (hk : k.size ≤ 16) (hs : s.size ≤ 4096) : Dig w 33 #[.string k, .string s] (du k s) := fun w1 h => by rw [← du_cells]; exact refSum_any k s w1 hk hs
theorem Dig.cls {w w4 : World} {f : Nat} {args : Array Value} {d : List UInt8} (h : Dig w f args d) (h4 : Below w.heap.size w w4) :
    ∀ w1, Below w4.heap.size w4 w1 → Calls Tryd.prog f args w1 fun e w2 => e = .returned (.agg (bytV d).toArray) ∧ Below w4.heap.size w4 w2 := fun w1 h1 =>
  (h w1 (h4.trans (h1.mono h4.size))).mono fun e w2 hh => ⟨hh.1, h1.trans (hh.2.mono h1.size)⟩
/-- Three boxes of 32 bytes. -/
structure Bs3 (w : World) (R1 R2 R3 : Array Value) (x : World) : Prop where
  a1 : x.heap[w.heap.size]? = some (.cells R1 37 (0, 0))
  a2 : x.heap[w.heap.size + 1]? = some (.cells R2 37 (0, 0))
  a3 : x.heap[w.heap.size + 2]? = some (.cells R3 37 (0, 0))
  b : Below w.heap.size w x
theorem Bs3.below {w x y : World} {R1 R2 R3 : Array Value} (h : Bs3 w R1 R2 R3 x) (hB : Below x.heap.size x y) : Bs3 w R1 R2 R3 y :=
  ⟨(hB.block _ (Array.getElem?_eq_some_iff.1 h.a1).1).trans h.a1, (hB.block _ (Array.getElem?_eq_some_iff.1 h.a2).1).trans h.a2, (hB.block _ (Array.getElem?_eq_some_iff.1 h.a3).1).trans h.a3, h.b.trans (hB.mono h.b.size)⟩
theorem al3_0 (w : World) (A B C : Obj) : (((w.alloc A).alloc B).alloc C).heap[w.heap.size]? = some A := by
  show (((w.heap.push A).push B).push C)[w.heap.size]? = _
  rw [Array.getElem?_push, if_neg (by simp; omega), Array.getElem?_push, if_neg (by simp), Array.getElem?_push, if_pos rfl]
theorem al3_1 (w : World) (A B C : Obj) : (((w.alloc A).alloc B).alloc C).heap[w.heap.size + 1]? = some B := by
  show (((w.heap.push A).push B).push C)[w.heap.size + 1]? = _
  rw [Array.getElem?_push, if_neg (by simp), Array.getElem?_push, if_pos (by simp)]
theorem al3_2 (w : World) (A B C : Obj) : (((w.alloc A).alloc B).alloc C).heap[w.heap.size + 2]? = some C := by
  show (((w.heap.push A).push B).push C)[w.heap.size + 2]? = _
  rw [Array.getElem?_push, if_pos (by simp)]
theorem al3_b (w : World) (A B C : Obj) : Below w.heap.size w (((w.alloc A).alloc B).alloc C) := (((Below.refl _ w).alloc (Nat.le_refl _) A).alloc (by simp) B).alloc (by simp; omega) C
theorem Bs3.made (w : World) (A : Array Value) (R1 R2 R3 : Array Value) :
    Bs3 w R1 R2 R3 ((((((w.alloc (.cells A 37)).alloc (.cells A 37)).alloc (.cells A 37)).setRow w.heap.size R1).setRow (w.heap.size + 1) R2).setRow (w.heap.size + 2) R3) := by
  have h0 := al3_0 w (.cells A 37) (.cells A 37) (.cells A 37)
  have h1 := al3_1 w (.cells A 37) (.cells A 37) (.cells A 37)
  have h2 := al3_2 w (.cells A 37) (.cells A 37) (.cells A 37)
  have hb := al3_b w (.cells A 37) (.cells A 37) (.cells A 37)
  generalize ((w.alloc (.cells A 37)).alloc (.cells A 37)).alloc (.cells A 37) = x at *
  refine ⟨?_, ?_, ?_, below_setRow (below_setRow (below_setRow hb (Nat.le_refl _) _) (by omega) _) (by omega) _⟩
  · rw [setRow_other _ _ _ _ (by omega), setRow_other _ _ _ _ (by omega)]; exact setRow_heap _ _ _ _ _ _ h0
  · rw [setRow_other _ _ _ _ (by omega)]; exact setRow_heap _ _ _ _ _ _ ((setRow_other _ _ _ _ (by omega)).trans h1)
  · exact setRow_heap _ _ _ _ _ _ ((setRow_other _ _ _ _ (by omega)).trans ((setRow_other _ _ _ _ (by omega)).trans h2))
theorem bs3_abs {ops : Array Oper} {rest : List Oper} {Q : Exit → Act → World → Prop} {a : Act} {w w' : World} {R1 R2 R3 : Array Value} (hb : Bs3 w R1 R2 R3 w') (h : ∀ w2, Bs3 w R1 R2 R3 w2 → wpList Tryd.prog ops Q rest a w2) : wpList Tryd.prog ops Q rest a w' := h _ hb
theorem wpList_index {P : Program} {ops : Array Oper} {rest : List Oper} {o : Oper} {a : Act} {w : World} {Q : Exit → Act → World → Prop} {t : TypeId} {x i : Operand} {xv iv v : Value} (hr : ∀ w, (Instr.index t xv iv).run P w = .ok v w)
    (hgd : o.guard = none) (ho : o.op = .index t x i) (hx : a.eval x = xv) (hi : a.eval i = iv) (h : wpList P ops Q rest (a.put o.dst v) w) : wpList P ops Q (o :: rest) a w := by
  refine wpList_plain hgd fun K hK => ?_
  unfold Oper.wp execOp
  simp only [ho, hx, hi, Sem.run_bind, Sem.run_pure, Result.andThen_ok, hr]
  exact hK _ _ h
theorem ix2_0 (x y : ByteArray) (w : World) : (Instr.index 53 (.agg #[.string x, .string y]) (.int .i64 0)).run Tryd.prog w = .ok (.string x) w := by simp [Instr.index, go_sem]
theorem ix2_1 (x y : ByteArray) (w : World) : (Instr.index 53 (.agg #[.string x, .string y]) (.int .i64 1)).run Tryd.prog w = .ok (.string y) w := by simp [Instr.index, go_sem]
theorem ix3_0 (x y z : ByteArray) (w : World) : (Instr.index 54 (.agg #[.string x, .string y, .string z]) (.int .i64 0)).run Tryd.prog w = .ok (.string x) w := by simp [Instr.index, go_sem]
theorem ix3_1 (x y z : ByteArray) (w : World) : (Instr.index 54 (.agg #[.string x, .string y, .string z]) (.int .i64 1)).run Tryd.prog w = .ok (.string y) w := by simp [Instr.index, go_sem]
theorem ix3_2 (x y z : ByteArray) (w : World) : (Instr.index 54 (.agg #[.string x, .string y, .string z]) (.int .i64 2)).run Tryd.prog w = .ok (.string z) w := by simp [Instr.index, go_sem]
theorem own_slice' {w : World} {base : Nat} {v : Value} {n : Nat} {xs : List Value} (h : w.ownsRow base 37 32 v n xs) : ∃ p c, v = .slice p n c := by
  rcases h.2 with ⟨h1, h2⟩ | ⟨g, cap, cur, hv, _⟩
  · subst h1; exact ⟨none, 0, by rw [h2]⟩
  · exact ⟨_, cap, hv⟩
theorem lens_at {L : List (List UInt8)} (h : ∀ y ∈ L, y.length = 32) : ∀ i, ∀ h : i < L.length, L[i].length = 32 := fun i hi => h _ (List.getElem_mem hi)
theorem row_lat {w : World} {base n : Nat} {pp : Option Addr} {pc : Nat} {L : List (List UInt8)} (hl : ∀ i, ∀ h : i < L.length, L[i].length = 32) (h : w.ownsRow base 37 32 (.slice pp n pc) L.length (LF bytV L)) : LAt 32 bytV w (.slice pp n pc) L :=
  LAt.own (n := 32) (fl := bytV) (l := L) (fun y hy => by
    obtain ⟨i, hi, rfl⟩ := List.mem_iff_getElem.1 hy
    rw [bytV_len]; exact hl i hi) h
theorem row_at {w : World} {base n : Nat} {pp : Option Addr} {pc : Nat} {L : List (List UInt8)} (hn : n = L.length) (hl : ∀ i, ∀ h : i < L.length, L[i].length = 32) (h : w.ownsRow base 37 32 (.slice pp n pc) L.length (LF bytV L)) (h0 : 0 < n) :
    ∃ g o, pp = some ⟨g, o, none⟩ ∧ n ≤ pc ∧ pc ≤ 9223372036854775807 := by
  obtain ⟨g, o, rfl, hg, h1, h2, h3⟩ := (par_at hn (row_lat hl h)).2 h0
  exact ⟨g, o, rfl, h1, h2⟩
theorem row_in {w : World} {base n g o pc : Nat} {L : List (List UInt8)} (hn : n = L.length) (hl : ∀ i, ∀ h : i < L.length, L[i].length = 32) (h : w.ownsRow base 37 32 (.slice (some ⟨g, o, none⟩) n pc) L.length (LF bytV L)) (h0 : 0 < n) :
    g < w.heap.size ∧ ∀ k, ∀ hk : k < L.length, w.rangeAt g (o + k * 32) (bytV L[k]) := by
  obtain ⟨g', o', e, hg, h1, h2, h3⟩ := (par_at hn (row_lat hl h)).2 h0
  simp only [Option.some.injEq, Addr.mk.injEq, and_true] at e
  obtain ⟨rfl, rfl⟩ := e
  exact ⟨hg, h3⟩
theorem same37 (d : List UInt8) (h : d.length = 32) (w : World) : (Op.equalIn 10000 37 (.agg (bytV d).toArray) (.agg (bytV d).toArray)).run Tryd.prog w = .ok true w := by rw [eq_id h h, decide_eq_true rfl]
theorem other37 (a b : List UInt8) (ha : a.length = 32) (hb : b.length = 32) (hne : a ≠ b) (w : World) : (Op.equalIn 10000 37 (.agg (bytV a).toArray) (.agg (bytV b).toArray)).run Tryd.prog w = .ok false w := by rw [eq_id ha hb, decide_eq_false hne]
theorem load_r37 {x : World} {B : Nat} {d : List UInt8} (h : x.heap[B]? = some (.cells (bytV d).toArray 37 (0, 0))) (hd : d.length = 32) : (loadVar 37 ⟨B, 0, none⟩).run Tryd.prog x = .ok (.agg (bytV d).toArray) x :=
  run_loadVar_row x B 37 37 (bytV d).toArray (0, 0) _ h Tryd.underlying37 rfl (id_size hd)

set_option maxRecDepth 100000 in
set_option maxHeartbeats 40000000 in
theorem names7_ne (a b : ByteArray) (d0 d1 d2 d3 d4 d5 : List UInt8) (w : World) (ha : a.size + b.size ≤ 4096) (hne : (a.toList == b.toList) = false) (Hl_d0 : Hid (d0.length = 32)) (Hl_d1 : Hid (d1.length = 32)) (Hl_d2 : Hid (d2.length = 32)) (Hl_d3 : Hid (d3.length = 32)) (Hl_d4 : Hid (d4.length = 32)) (Hl_d5 : Hid (d5.length = 32)) (HA : Hid (Calls Tryd.prog 13 #[] w fun e w' => e = .returned (.bool true) ∧ Below w.heap.size w w'))
    (DS0 : Hid (Dig w 33 #[.string ⟨#[98, 108, 111, 98]⟩, .string a] d0)) (DS1 : Hid (Dig w 33 #[.string ⟨#[116, 114, 101, 101]⟩, .string a] d1)) (DS2 : Hid (Dig w 33 #[.string ⟨#[99, 111, 109, 109, 105, 116]⟩, .string a] d2)) (DS3 : Hid (Dig w 33 #[.string ⟨#[98, 108, 111, 98]⟩, .string b] d3)) (DS4 : Hid (Dig w 33 #[.string ⟨#[116, 114, 101, 101]⟩, .string b] d4)) (DS5 : Hid (Dig w 33 #[.string ⟨#[99, 111, 109, 109, 105, 116]⟩, .string b] d5)) (DA30 : Hid (Dig w 30 #[.string a] d0)) (DA31 : Hid (Dig w 31 #[.string a] d1)) (DA32 : Hid (Dig w 32 #[.string a] d2))
    (DB30 : Hid (Dig w 30 #[.string b] d3)) (DB31 : Hid (Dig w 31 #[.string b] d4)) (DB32 : Hid (Dig w 32 #[.string b] d5)) : Calls Tryd.prog 6 #[.string a, .string b] w (LawEnd w) := by
  have hsI : ¬ (4096 : Int) < (a.size : Int) + (b.size : Int) := by omega
  have hwr : IntKind.i64.wrap ((a.size : Int) + (b.size : Int)) = (a.size : Int) + (b.size : Int) := wrap_in (by omega) (by omega)
  go_enter Tryd.func6, Tryd.ntmps6
  go_wp2_with fail
  refine HA.out.mono ?_
  rintro e w0 ⟨rfl, hB0⟩
  go_wp2_with fail
  refine (DA30.out _ hB0).mono ?_
  rintro e w1 ⟨rfl, hB2⟩
  replace hB0 := hB0.trans (hB2.mono hB0.size)
  clear hB2
  go_wp2_with fail
  refine (DA31.out _ hB0).mono ?_
  rintro e w2 ⟨rfl, hB2⟩
  replace hB0 := hB0.trans (hB2.mono hB0.size)
  clear hB2
  go_wp2_with fail
  refine (DA32.out _ hB0).mono ?_
  rintro e w3 ⟨rfl, hB2⟩
  replace hB0 := hB0.trans (hB2.mono hB0.size)
  clear hB2
  have HW3 := Lib.hid hB0
  clear hB0
  have Hs_d0 := Lib.hid (show (bytV d0).toArray.size = 32 by rw [List.size_toArray, bytV_len, Hl_d0.out])
  have Hs_d1 := Lib.hid (show (bytV d1).toArray.size = 32 by rw [List.size_toArray, bytV_len, Hl_d1.out])
  have Hs_d2 := Lib.hid (show (bytV d2).toArray.size = 32 by rw [List.size_toArray, bytV_len, Hl_d2.out])
  have Hs_d3 := Lib.hid (show (bytV d3).toArray.size = 32 by rw [List.size_toArray, bytV_len, Hl_d3.out])
  have Hs_d4 := Lib.hid (show (bytV d4).toArray.size = 32 by rw [List.size_toArray, bytV_len, Hl_d4.out])
  have Hs_d5 := Lib.hid (show (bytV d5).toArray.size = 32 by rw [List.size_toArray, bytV_len, Hl_d5.out])
  go_wp2_with (first | (refine wpList_store_rowTo rfl 37 (.tmp 5) (.tmp 25) rfl rfl w3.heap.size (bytV d0).toArray rfl rfl 37 _ (al3_0 w3 _ _ _) (id_size Hl_d0.out) (by rw [Hs_d0.out]; rfl) (id_one _) ?_) | (refine wpList_store_rowTo rfl 37 (.tmp 6) (.tmp 27) rfl rfl (w3.heap.size + 1) (bytV d1).toArray rfl rfl 37 _ ((setRow_other _ _ _ _ (by omega)).trans (al3_1 w3 _ _ _)) (id_size Hl_d1.out) (by rw [Hs_d1.out]; rfl) (id_one _) ?_) | (refine wpList_store_rowTo rfl 37 (.tmp 7) (.tmp 29) rfl rfl (w3.heap.size + 2) (bytV d2).toArray rfl rfl 37 _ ((setRow_other _ _ _ _ (by omega)).trans ((setRow_other _ _ _ _ (by omega)).trans (al3_2 w3 _ _ _))) (id_size Hl_d2.out) (by rw [Hs_d2.out]; rfl) (id_one _) ?_; refine bs3_abs (Bs3.made w3 _ (bytV d0).toArray (bytV d1).toArray (bytV d2).toArray) ?_; intro w4' hb4; have HX3 := Lib.hid hb4; clear hb4))
  have HW5 := Lib.hid (HW3.out.trans (HX3.out.b.mono HW3.out.size))
  have F0 := Lib.hid (DS0.out.cls HW5.out)
  have F1 := Lib.hid (DS1.out.cls HW5.out)
  have F2 := Lib.hid (DS2.out.cls HW5.out)
  have LX0 := Lib.hid (fun w1 (h1 : Below w4'.heap.size w4' w1) => load_r37 (d := d0) (HX3.out.below h1).a1 Hl_d0.out)
  have LX1 := Lib.hid (fun w1 (h1 : Below w4'.heap.size w4' w1) => load_r37 (d := d1) (HX3.out.below h1).a2 Hl_d1.out)
  have LX2 := Lib.hid (fun w1 (h1 : Below w4'.heap.size w4' w1) => load_r37 (d := d2) (HX3.out.below h1).a3 Hl_d2.out)
  have q0 := same37 d0 Hl_d0.out
  have q1 := same37 d1 Hl_d1.out
  have q2 := same37 d2 Hl_d2.out
  refine wp_region_class (Below w4'.heap.size w4') (by kernel_rfl) (by kernel_rfl) (Below.refl _ _).drew ?_
  repeat (go_big_quiet_step (first | (intro hh; with_reducible exact F0.out _ hh) | (intro hh; with_reducible exact F1.out _ hh) | (intro hh; with_reducible exact F2.out _ hh) | (intro _; rfl)))
  refine wpQuiet_load_at rfl 37 (.tmp 5) rfl ⟨w3.heap.size, 0, none⟩ rfl (.agg (bytV d0).toArray) LX0.out ?_
  simp only [Act.put, List.setIfInBounds_toArray, List.set_cons_succ, List.set_cons_zero]
  repeat (go_big_quiet_step (first | (intro hh; with_reducible exact F0.out _ hh) | (intro hh; with_reducible exact F1.out _ hh) | (intro hh; with_reducible exact F2.out _ hh) | (intro _; rfl)))
  refine wpQuiet_load_at (by simp [Region.wanted, yielded, Act.put]) 37 (.tmp 6) rfl ⟨w3.heap.size + 1, 0, none⟩ rfl (.agg (bytV d1).toArray) LX1.out ?_
  simp only [Act.put, List.setIfInBounds_toArray, List.set_cons_succ, List.set_cons_zero]
  repeat (go_big_quiet_step (first | (intro hh; with_reducible exact F0.out _ hh) | (intro hh; with_reducible exact F1.out _ hh) | (intro hh; with_reducible exact F2.out _ hh) | (intro _; rfl)))
  refine wpQuiet_load_at (by simp [Region.wanted, yielded, Act.put]) 37 (.tmp 7) rfl ⟨w3.heap.size + 2, 0, none⟩ rfl (.agg (bytV d2).toArray) LX2.out ?_
  simp only [Act.put, List.setIfInBounds_toArray, List.set_cons_succ, List.set_cons_zero]
  repeat (go_big_quiet_step (first | (intro hh; with_reducible exact F0.out _ hh) | (intro hh; with_reducible exact F1.out _ hh) | (intro hh; with_reducible exact F2.out _ hh) | (intro _; rfl)))
  refine wpQuiet_nil ?_
  intro w4 hBq
  have HX4 := Lib.hid (HX3.out.below hBq)
  have HW4 := Lib.hid (HW5.out.trans (hBq.mono HW5.out.size))
  have HL := Lib.hid (show LoG 37 32 bytV w4 [] (.slice none 0 0) w4 from ⟨⟨rfl, .inl ⟨rfl, rfl⟩⟩, Below.refl _ _⟩)
  clear hBq q0 q1 q2 F0 F1 F2 LX0 LX1 LX2 HX3 HW3 HW5
  go_wp2_with fail
  refine wp_loop_rounds 3 ?_
  rw [rounds_succ]
  go_wp2_with (first | (refine wpList_index (ix2_0 _ _) rfl rfl rfl rfl ?_) | (refine wpList_index (ix2_1 _ _) rfl rfl rfl rfl ?_) | (refine wpList_index (ix3_0 _ _ _) rfl rfl rfl rfl ?_) | (refine wpList_index (ix3_1 _ _ _) rfl rfl rfl rfl ?_) | (refine wpList_index (ix3_2 _ _ _) rfl rfl rfl rfl ?_))
  refine wp_loop_rounds 4 ?_
  rw [rounds_succ]
  go_wp2_with (first | (refine wpList_index (ix2_0 _ _) rfl rfl rfl rfl ?_) | (refine wpList_index (ix2_1 _ _) rfl rfl rfl rfl ?_) | (refine wpList_index (ix3_0 _ _ _) rfl rfl rfl rfl ?_) | (refine wpList_index (ix3_1 _ _ _) rfl rfl rfl rfl ?_) | (refine wpList_index (ix3_2 _ _ _) rfl rfl rfl rfl ?_))
  refine (DS0.out _ (HW4.out.trans (HL.out.bl.mono HW4.out.size))).mono ?_
  rintro e S0 ⟨rfl, hB2⟩
  replace HL := Lib.hid (HL.out.below hB2)
  clear hB2
  go_wp2_with (first | (refine wpList_store_rowTo rfl 37 (.tmp 13) (.tmp 58) rfl rfl S0.heap.size (bytV d0).toArray rfl rfl 37 _ (heap_alloc_new S0 _) (id_size Hl_d0.out) (by rw [Hs_d0.out]; rfl) (id_one _) ?_; refine box_absL (boxL_made S0 _ 37 (bytV d0)) ?_; intro wT hbx; have HB := Lib.hid hbx; replace HL := Lib.hid (HL.out.below hbx.b); clear hbx))
  go_loopg [61] 0 (fun g iv wr => ∃ i : Nat, i + g = 0 ∧ iv = .int .i64 i ∧ Below wT.heap.size wT wr ∧ ∀ k, k < i → ∀ h : k < ([] : List (List UInt8)).length, True)
  case atStart => exact ⟨0, by omega, rfl, Below.refl _ _, fun k hk => absurd hk (by omega)⟩
  case round =>
    obtain ⟨i, hig, rfl, hBr, hno⟩ := hrel
    have HLr := Lib.hid (HL.out.below hBr)
    have HBr := Lib.hid (HB.out.below hBr)
    have HBk := Lib.hid hBr
    have HN := Lib.hid hno
    clear hBr hno
    by_cases hlt : i < 0
    · exact absurd hlt (by omega)
    · obtain rfl : i = 0 := by omega
      have hltI : ¬ ((0 : Nat) : Int) < 0 := by decide
      have N0 := Lib.hid HN.out
      have hbl : (bytV d0).length = 32 := by rw [bytV_len]; exact Hl_d0.out
      go_wp2_with (first | (refine wpList_load_mid rfl 37 (.tmp 13) rfl S0.heap.size 0 rfl (bytV d0) _ (fun j y hj => by rw [Nat.zero_add]; exact HBr.out.r j y hj) Tryd.underlying37 rfl (by rw [bytV_len, Hl_d0.out]; kernel_rfl) ?_) | (at_builtin; go_must (refine wpList_append_gen eltI rfl (.tmp 83) (.tmp 85) rfl rfl w4.heap.size _ [] rfl (HLr.out.below ((Below.refl _ _).alloc (Nat.le_refl _) _)).ow _ [d0] (LAt.block (by rw [bytV_len]; exact Hl_d0.out) (fold_all (bytV d0) #[.int .u8 0, .int .u8 0, .int .u8 0, .int .u8 0, .int .u8 0, .int .u8 0, .int .u8 0, .int .u8 0, .int .u8 0, .int .u8 0, .int .u8 0, .int .u8 0, .int .u8 0, .int .u8 0, .int .u8 0, .int .u8 0, .int .u8 0, .int .u8 0, .int .u8 0, .int .u8 0, .int .u8 0, .int .u8 0, .int .u8 0, .int .u8 0, .int .u8 0, .int .u8 0, .int .u8 0, .int .u8 0, .int .u8 0, .int .u8 0, .int .u8 0, .int .u8 0] (by rw [bytV_len, Hl_d0.out]; rfl)) (heap_alloc_new wr _)) rfl (by simp only [List.length_cons, List.length_nil]; omega) (by unfold maxLen; simp only [List.length_cons, List.length_nil]; omega) (by have := HLr.out.bl.size; simp; omega) ?_); intro va w5 ho5 hg5; have HLn := Lib.hid ((HLr.out.below ((Below.refl _ _).alloc (Nat.le_refl _) _)).put ho5 hg5); clear ho5 hg5))
      replace HL := HLn
      clear HLr HBr HBk HB HN HLn hbl
      obtain ⟨pp, pc1, rfl⟩ := own_slice' (n := 1) HL.out.ow
      have HLen := Lib.hid (lens_at (L := [d0]) (by
        intro y hy
        simp only [List.mem_cons, List.not_mem_nil, or_false] at hy
        rw [hy]; exact Hl_d0.out))
      obtain ⟨g1, o1, rfl, hcap1, hmax1⟩ := row_at (n := 1) rfl HLen.out HL.out.ow (by decide)
      rw [rounds_succ]
      go_wp2_with (first | (refine wpList_index (ix2_0 _ _) rfl rfl rfl rfl ?_) | (refine wpList_index (ix2_1 _ _) rfl rfl rfl rfl ?_) | (refine wpList_index (ix3_0 _ _ _) rfl rfl rfl rfl ?_) | (refine wpList_index (ix3_1 _ _ _) rfl rfl rfl rfl ?_) | (refine wpList_index (ix3_2 _ _ _) rfl rfl rfl rfl ?_))
      refine (DS1.out _ (HW4.out.trans (HL.out.bl.mono HW4.out.size))).mono ?_
      rintro e S1 ⟨rfl, hB2⟩
      replace HL := Lib.hid (HL.out.below hB2)
      clear hB2
      go_wp2_with (first | (refine wpList_store_rowTo rfl 37 (.tmp 13) (.tmp 58) rfl rfl S1.heap.size (bytV d1).toArray rfl rfl 37 _ (heap_alloc_new S1 _) (id_size Hl_d1.out) (by rw [Hs_d1.out]; rfl) (id_one _) ?_; refine box_absL (boxL_made S1 _ 37 (bytV d1)) ?_; intro wT hbx; have HB := Lib.hid hbx; replace HL := Lib.hid (HL.out.below hbx.b); clear hbx))
      go_loopg [61] 1 (fun g iv wr => ∃ i : Nat, i + g = 1 ∧ iv = .int .i64 i ∧ Below wT.heap.size wT wr ∧ ∀ k, k < i → ∀ h : k < ([d0] : List (List UInt8)).length, [d0][k] ≠ d1)
      case atStart => exact ⟨0, by omega, rfl, Below.refl _ _, fun k hk => absurd hk (by omega)⟩
      case round =>
        obtain ⟨i, hig, rfl, hBr, hno⟩ := hrel
        have HLr := Lib.hid (HL.out.below hBr)
        have HBr := Lib.hid (HB.out.below hBr)
        have HBk := Lib.hid hBr
        have HN := Lib.hid hno
        clear hBr hno
        by_cases hlt : i < 1
        · have hltI : (i : Int) < 1 := by omega
          have hiL : i < ([d0] : List (List UInt8)).length := by simpa using hlt
          have hdl := HLen.out i hiL
          obtain ⟨hgl, hrg0⟩ := row_in (n := 1) rfl HLen.out HLr.out.ow (by decide)
          have hrg := hrg0 i hiL
          obtain ⟨di, hdi⟩ : ∃ di, di = ([d0] : List (List UInt8))[i] := ⟨_, rfl⟩
          rw [← hdi] at hdl hrg
          have Hdi := Lib.hid hdi
          have Hdl := Lib.hid hdl
          have Hrg := Lib.hid hrg
          have Hds := Lib.hid (show (bytV di).toArray.size = 32 by rw [List.size_toArray, bytV_len, hdl])
          have heq0 := fun w1 => eq_id (a := di) (b := d1) hdl Hl_d1.out w1
          clear hdi hdl hrg hrg0
          by_cases he : di = d1
          · have heq : ∀ w1, (Op.equalIn 10000 37 (.agg (bytV di).toArray) (.agg (bytV d1).toArray)).run Tryd.prog w1 = .ok true w1 := fun w1 => by rw [heq0 w1, decide_eq_true he]
            clear heq0 he
            go_wp2_with (first | (refine wpList_load_mid rfl 37 (.tmp 64) rfl g1 (o1 + i * 32) rfl (bytV di) _ Hrg.out Tryd.underlying37 rfl (by rw [bytV_len, Hdl.out]; kernel_rfl) ?_) | (refine wpList_store_rowTo rfl 37 (.tmp 15) (.tmp 65) rfl rfl wr.heap.size (bytV di).toArray rfl rfl 37 _ (heap_alloc_new wr _) (id_size Hdl.out) (by rw [Hds.out]; rfl) (id_one _) ?_; refine box_absL (boxL_made wr _ 37 (bytV di)) ?_; intro wu hbx; have HBu := Lib.hid hbx; have HBv := Lib.hid (HBr.out.below hbx.b); have HLu0 := Lib.hid (HBk.out.trans (hbx.b.mono HBk.out.size)); clear hbx) | (refine wpList_load_mid rfl 37 (.tmp 15) rfl wr.heap.size 0 rfl (bytV di) _ (fun j y hj => by rw [Nat.zero_add]; exact HBu.out.r j y hj) Tryd.underlying37 rfl (by rw [bytV_len, Hdl.out]; kernel_rfl) ?_) | (refine wpList_load_mid rfl 37 (.tmp 13) rfl S1.heap.size 0 rfl (bytV d1) _ (fun j y hj => by rw [Nat.zero_add]; exact HBv.out.r j y hj) Tryd.underlying37 rfl (by rw [bytV_len, Hl_d1.out]; kernel_rfl) ?_))
            go_ret
            exact ⟨rfl, HW4.out.trans ((HLr.out.bl.trans (HBu.out.b.mono HLr.out.bl.size)).mono HW4.out.size)⟩
          · have heq : ∀ w1, (Op.equalIn 10000 37 (.agg (bytV di).toArray) (.agg (bytV d1).toArray)).run Tryd.prog w1 = .ok false w1 := fun w1 => by rw [heq0 w1, decide_eq_false he]
            have Hne := Lib.hid he
            clear heq0 he
            go_wp2_with (first | (refine wpList_load_mid rfl 37 (.tmp 64) rfl g1 (o1 + i * 32) rfl (bytV di) _ Hrg.out Tryd.underlying37 rfl (by rw [bytV_len, Hdl.out]; kernel_rfl) ?_) | (refine wpList_store_rowTo rfl 37 (.tmp 15) (.tmp 65) rfl rfl wr.heap.size (bytV di).toArray rfl rfl 37 _ (heap_alloc_new wr _) (id_size Hdl.out) (by rw [Hds.out]; rfl) (id_one _) ?_; refine box_absL (boxL_made wr _ 37 (bytV di)) ?_; intro wu hbx; have HBu := Lib.hid hbx; have HBv := Lib.hid (HBr.out.below hbx.b); have HLu0 := Lib.hid (HBk.out.trans (hbx.b.mono HBk.out.size)); clear hbx) | (refine wpList_load_mid rfl 37 (.tmp 15) rfl wr.heap.size 0 rfl (bytV di) _ (fun j y hj => by rw [Nat.zero_add]; exact HBu.out.r j y hj) Tryd.underlying37 rfl (by rw [bytV_len, Hdl.out]; kernel_rfl) ?_) | (refine wpList_load_mid rfl 37 (.tmp 13) rfl S1.heap.size 0 rfl (bytV d1) _ (fun j y hj => by rw [Nat.zero_add]; exact HBv.out.r j y hj) Tryd.underlying37 rfl (by rw [bytV_len, Hl_d1.out]; kernel_rfl) ?_))
            go_roundg (gk - 1)
            case measure => omega
            case rel => exact ⟨i + 1, by omega, by go_num, HLu0.out, fun k hk h => by
              rcases (by omega : k < i ∨ k = i) with hk2 | rfl
              · exact HN.out k hk2 h
              · intro e2; exact Hne.out (Hdi.out.trans e2)⟩
        · obtain rfl : i = 1 := by omega
          have hltI : ¬ ((1 : Nat) : Int) < 1 := by decide
          have N1 := Lib.hid HN.out
          have hbl : (bytV d1).length = 32 := by rw [bytV_len]; exact Hl_d1.out
          go_wp2_with (first | (refine wpList_load_mid rfl 37 (.tmp 13) rfl S1.heap.size 0 rfl (bytV d1) _ (fun j y hj => by rw [Nat.zero_add]; exact HBr.out.r j y hj) Tryd.underlying37 rfl (by rw [bytV_len, Hl_d1.out]; kernel_rfl) ?_) | (at_builtin; go_must (refine wpList_append_gen eltI rfl (.tmp 83) (.tmp 85) rfl rfl w4.heap.size _ [d0] rfl (HLr.out.below ((Below.refl _ _).alloc (Nat.le_refl _) _)).ow _ [d1] (LAt.block (by rw [bytV_len]; exact Hl_d1.out) (fold_all (bytV d1) #[.int .u8 0, .int .u8 0, .int .u8 0, .int .u8 0, .int .u8 0, .int .u8 0, .int .u8 0, .int .u8 0, .int .u8 0, .int .u8 0, .int .u8 0, .int .u8 0, .int .u8 0, .int .u8 0, .int .u8 0, .int .u8 0, .int .u8 0, .int .u8 0, .int .u8 0, .int .u8 0, .int .u8 0, .int .u8 0, .int .u8 0, .int .u8 0, .int .u8 0, .int .u8 0, .int .u8 0, .int .u8 0, .int .u8 0, .int .u8 0, .int .u8 0, .int .u8 0] (by rw [bytV_len, Hl_d1.out]; rfl)) (heap_alloc_new wr _)) rfl (by simp only [List.length_cons, List.length_nil]; omega) (by unfold maxLen; simp only [List.length_cons, List.length_nil]; omega) (by have := HLr.out.bl.size; simp; omega) ?_); intro va w5 ho5 hg5; have HLn := Lib.hid ((HLr.out.below ((Below.refl _ _).alloc (Nat.le_refl _) _)).put ho5 hg5); clear ho5 hg5))
          replace HL := HLn
          clear HLr HBr HBk HB HN HLn hbl
          obtain ⟨pp, pc2, rfl⟩ := own_slice' (n := 2) HL.out.ow
          have HLen := Lib.hid (lens_at (L := [d0, d1]) (by
            intro y hy
            simp only [List.mem_cons, List.not_mem_nil, or_false] at hy
            rcases hy with h | h
            · rw [h]; exact Hl_d0.out
            · rw [h]; exact Hl_d1.out))
          obtain ⟨g2, o2, rfl, hcap2, hmax2⟩ := row_at (n := 2) rfl HLen.out HL.out.ow (by decide)
          rw [rounds_succ]
          go_wp2_with (first | (refine wpList_index (ix2_0 _ _) rfl rfl rfl rfl ?_) | (refine wpList_index (ix2_1 _ _) rfl rfl rfl rfl ?_) | (refine wpList_index (ix3_0 _ _ _) rfl rfl rfl rfl ?_) | (refine wpList_index (ix3_1 _ _ _) rfl rfl rfl rfl ?_) | (refine wpList_index (ix3_2 _ _ _) rfl rfl rfl rfl ?_))
          refine (DS2.out _ (HW4.out.trans (HL.out.bl.mono HW4.out.size))).mono ?_
          rintro e S2 ⟨rfl, hB2⟩
          replace HL := Lib.hid (HL.out.below hB2)
          clear hB2
          go_wp2_with (first | (refine wpList_store_rowTo rfl 37 (.tmp 13) (.tmp 58) rfl rfl S2.heap.size (bytV d2).toArray rfl rfl 37 _ (heap_alloc_new S2 _) (id_size Hl_d2.out) (by rw [Hs_d2.out]; rfl) (id_one _) ?_; refine box_absL (boxL_made S2 _ 37 (bytV d2)) ?_; intro wT hbx; have HB := Lib.hid hbx; replace HL := Lib.hid (HL.out.below hbx.b); clear hbx))
          go_loopg [61] 2 (fun g iv wr => ∃ i : Nat, i + g = 2 ∧ iv = .int .i64 i ∧ Below wT.heap.size wT wr ∧ ∀ k, k < i → ∀ h : k < ([d0, d1] : List (List UInt8)).length, [d0, d1][k] ≠ d2)
          case atStart => exact ⟨0, by omega, rfl, Below.refl _ _, fun k hk => absurd hk (by omega)⟩
          case round =>
            obtain ⟨i, hig, rfl, hBr, hno⟩ := hrel
            have HLr := Lib.hid (HL.out.below hBr)
            have HBr := Lib.hid (HB.out.below hBr)
            have HBk := Lib.hid hBr
            have HN := Lib.hid hno
            clear hBr hno
            by_cases hlt : i < 2
            · have hltI : (i : Int) < 2 := by omega
              have hiL : i < ([d0, d1] : List (List UInt8)).length := by simpa using hlt
              have hdl := HLen.out i hiL
              obtain ⟨hgl, hrg0⟩ := row_in (n := 2) rfl HLen.out HLr.out.ow (by decide)
              have hrg := hrg0 i hiL
              obtain ⟨di, hdi⟩ : ∃ di, di = ([d0, d1] : List (List UInt8))[i] := ⟨_, rfl⟩
              rw [← hdi] at hdl hrg
              have Hdi := Lib.hid hdi
              have Hdl := Lib.hid hdl
              have Hrg := Lib.hid hrg
              have Hds := Lib.hid (show (bytV di).toArray.size = 32 by rw [List.size_toArray, bytV_len, hdl])
              have heq0 := fun w1 => eq_id (a := di) (b := d2) hdl Hl_d2.out w1
              clear hdi hdl hrg hrg0
              by_cases he : di = d2
              · have heq : ∀ w1, (Op.equalIn 10000 37 (.agg (bytV di).toArray) (.agg (bytV d2).toArray)).run Tryd.prog w1 = .ok true w1 := fun w1 => by rw [heq0 w1, decide_eq_true he]
                clear heq0 he
                go_wp2_with (first | (refine wpList_load_mid rfl 37 (.tmp 64) rfl g2 (o2 + i * 32) rfl (bytV di) _ Hrg.out Tryd.underlying37 rfl (by rw [bytV_len, Hdl.out]; kernel_rfl) ?_) | (refine wpList_store_rowTo rfl 37 (.tmp 15) (.tmp 65) rfl rfl wr.heap.size (bytV di).toArray rfl rfl 37 _ (heap_alloc_new wr _) (id_size Hdl.out) (by rw [Hds.out]; rfl) (id_one _) ?_; refine box_absL (boxL_made wr _ 37 (bytV di)) ?_; intro wu hbx; have HBu := Lib.hid hbx; have HBv := Lib.hid (HBr.out.below hbx.b); have HLu0 := Lib.hid (HBk.out.trans (hbx.b.mono HBk.out.size)); clear hbx) | (refine wpList_load_mid rfl 37 (.tmp 15) rfl wr.heap.size 0 rfl (bytV di) _ (fun j y hj => by rw [Nat.zero_add]; exact HBu.out.r j y hj) Tryd.underlying37 rfl (by rw [bytV_len, Hdl.out]; kernel_rfl) ?_) | (refine wpList_load_mid rfl 37 (.tmp 13) rfl S2.heap.size 0 rfl (bytV d2) _ (fun j y hj => by rw [Nat.zero_add]; exact HBv.out.r j y hj) Tryd.underlying37 rfl (by rw [bytV_len, Hl_d2.out]; kernel_rfl) ?_))
                go_ret
                exact ⟨rfl, HW4.out.trans ((HLr.out.bl.trans (HBu.out.b.mono HLr.out.bl.size)).mono HW4.out.size)⟩
              · have heq : ∀ w1, (Op.equalIn 10000 37 (.agg (bytV di).toArray) (.agg (bytV d2).toArray)).run Tryd.prog w1 = .ok false w1 := fun w1 => by rw [heq0 w1, decide_eq_false he]
                have Hne := Lib.hid he
                clear heq0 he
                go_wp2_with (first | (refine wpList_load_mid rfl 37 (.tmp 64) rfl g2 (o2 + i * 32) rfl (bytV di) _ Hrg.out Tryd.underlying37 rfl (by rw [bytV_len, Hdl.out]; kernel_rfl) ?_) | (refine wpList_store_rowTo rfl 37 (.tmp 15) (.tmp 65) rfl rfl wr.heap.size (bytV di).toArray rfl rfl 37 _ (heap_alloc_new wr _) (id_size Hdl.out) (by rw [Hds.out]; rfl) (id_one _) ?_; refine box_absL (boxL_made wr _ 37 (bytV di)) ?_; intro wu hbx; have HBu := Lib.hid hbx; have HBv := Lib.hid (HBr.out.below hbx.b); have HLu0 := Lib.hid (HBk.out.trans (hbx.b.mono HBk.out.size)); clear hbx) | (refine wpList_load_mid rfl 37 (.tmp 15) rfl wr.heap.size 0 rfl (bytV di) _ (fun j y hj => by rw [Nat.zero_add]; exact HBu.out.r j y hj) Tryd.underlying37 rfl (by rw [bytV_len, Hdl.out]; kernel_rfl) ?_) | (refine wpList_load_mid rfl 37 (.tmp 13) rfl S2.heap.size 0 rfl (bytV d2) _ (fun j y hj => by rw [Nat.zero_add]; exact HBv.out.r j y hj) Tryd.underlying37 rfl (by rw [bytV_len, Hl_d2.out]; kernel_rfl) ?_))
                go_roundg (gk - 1)
                case measure => omega
                case rel => exact ⟨i + 1, by omega, by go_num, HLu0.out, fun k hk h => by
                  rcases (by omega : k < i ∨ k = i) with hk2 | rfl
                  · exact HN.out k hk2 h
                  · intro e2; exact Hne.out (Hdi.out.trans e2)⟩
            · obtain rfl : i = 2 := by omega
              have hltI : ¬ ((2 : Nat) : Int) < 2 := by decide
              have N2 := Lib.hid HN.out
              have hbl : (bytV d2).length = 32 := by rw [bytV_len]; exact Hl_d2.out
              go_wp2_with (first | (refine wpList_load_mid rfl 37 (.tmp 13) rfl S2.heap.size 0 rfl (bytV d2) _ (fun j y hj => by rw [Nat.zero_add]; exact HBr.out.r j y hj) Tryd.underlying37 rfl (by rw [bytV_len, Hl_d2.out]; kernel_rfl) ?_) | (at_builtin; go_must (refine wpList_append_gen eltI rfl (.tmp 83) (.tmp 85) rfl rfl w4.heap.size _ [d0, d1] rfl (HLr.out.below ((Below.refl _ _).alloc (Nat.le_refl _) _)).ow _ [d2] (LAt.block (by rw [bytV_len]; exact Hl_d2.out) (fold_all (bytV d2) #[.int .u8 0, .int .u8 0, .int .u8 0, .int .u8 0, .int .u8 0, .int .u8 0, .int .u8 0, .int .u8 0, .int .u8 0, .int .u8 0, .int .u8 0, .int .u8 0, .int .u8 0, .int .u8 0, .int .u8 0, .int .u8 0, .int .u8 0, .int .u8 0, .int .u8 0, .int .u8 0, .int .u8 0, .int .u8 0, .int .u8 0, .int .u8 0, .int .u8 0, .int .u8 0, .int .u8 0, .int .u8 0, .int .u8 0, .int .u8 0, .int .u8 0, .int .u8 0] (by rw [bytV_len, Hl_d2.out]; rfl)) (heap_alloc_new wr _)) rfl (by simp only [List.length_cons, List.length_nil]; omega) (by unfold maxLen; simp only [List.length_cons, List.length_nil]; omega) (by have := HLr.out.bl.size; simp; omega) ?_); intro va w5 ho5 hg5; have HLn := Lib.hid ((HLr.out.below ((Below.refl _ _).alloc (Nat.le_refl _) _)).put ho5 hg5); clear ho5 hg5))
              replace HL := HLn
              clear HLr HBr HBk HB HN HLn hbl
              obtain ⟨pp, pc3, rfl⟩ := own_slice' (n := 3) HL.out.ow
              have HLen := Lib.hid (lens_at (L := [d0, d1, d2]) (by
                intro y hy
                simp only [List.mem_cons, List.not_mem_nil, or_false] at hy
                rcases hy with h | h | h
                · rw [h]; exact Hl_d0.out
                · rw [h]; exact Hl_d1.out
                · rw [h]; exact Hl_d2.out))
              obtain ⟨g3, o3, rfl, hcap3, hmax3⟩ := row_at (n := 3) rfl HLen.out HL.out.ow (by decide)
              rw [rounds_succ]
              go_wp2_with (first | (refine wpList_index (ix2_0 _ _) rfl rfl rfl rfl ?_) | (refine wpList_index (ix2_1 _ _) rfl rfl rfl rfl ?_) | (refine wpList_index (ix3_0 _ _ _) rfl rfl rfl rfl ?_) | (refine wpList_index (ix3_1 _ _ _) rfl rfl rfl rfl ?_) | (refine wpList_index (ix3_2 _ _ _) rfl rfl rfl rfl ?_))
              rw [rounds_succ]
              go_wp2_with (first | (refine wpList_index (ix2_0 _ _) rfl rfl rfl rfl ?_) | (refine wpList_index (ix2_1 _ _) rfl rfl rfl rfl ?_) | (refine wpList_index (ix3_0 _ _ _) rfl rfl rfl rfl ?_) | (refine wpList_index (ix3_1 _ _ _) rfl rfl rfl rfl ?_) | (refine wpList_index (ix3_2 _ _ _) rfl rfl rfl rfl ?_))
              refine wp_loop_rounds 4 ?_
              rw [rounds_succ]
              go_wp2_with (first | (refine wpList_index (ix2_0 _ _) rfl rfl rfl rfl ?_) | (refine wpList_index (ix2_1 _ _) rfl rfl rfl rfl ?_) | (refine wpList_index (ix3_0 _ _ _) rfl rfl rfl rfl ?_) | (refine wpList_index (ix3_1 _ _ _) rfl rfl rfl rfl ?_) | (refine wpList_index (ix3_2 _ _ _) rfl rfl rfl rfl ?_))
              refine (DS3.out _ (HW4.out.trans (HL.out.bl.mono HW4.out.size))).mono ?_
              rintro e S3 ⟨rfl, hB2⟩
              replace HL := Lib.hid (HL.out.below hB2)
              clear hB2
              go_wp2_with (first | (refine wpList_store_rowTo rfl 37 (.tmp 13) (.tmp 58) rfl rfl S3.heap.size (bytV d3).toArray rfl rfl 37 _ (heap_alloc_new S3 _) (id_size Hl_d3.out) (by rw [Hs_d3.out]; rfl) (id_one _) ?_; refine box_absL (boxL_made S3 _ 37 (bytV d3)) ?_; intro wT hbx; have HB := Lib.hid hbx; replace HL := Lib.hid (HL.out.below hbx.b); clear hbx))
              go_loopg [61] 3 (fun g iv wr => ∃ i : Nat, i + g = 3 ∧ iv = .int .i64 i ∧ Below wT.heap.size wT wr ∧ ∀ k, k < i → ∀ h : k < ([d0, d1, d2] : List (List UInt8)).length, [d0, d1, d2][k] ≠ d3)
              case atStart => exact ⟨0, by omega, rfl, Below.refl _ _, fun k hk => absurd hk (by omega)⟩
              case round =>
                obtain ⟨i, hig, rfl, hBr, hno⟩ := hrel
                have HLr := Lib.hid (HL.out.below hBr)
                have HBr := Lib.hid (HB.out.below hBr)
                have HBk := Lib.hid hBr
                have HN := Lib.hid hno
                clear hBr hno
                by_cases hlt : i < 3
                · have hltI : (i : Int) < 3 := by omega
                  have hiL : i < ([d0, d1, d2] : List (List UInt8)).length := by simpa using hlt
                  have hdl := HLen.out i hiL
                  obtain ⟨hgl, hrg0⟩ := row_in (n := 3) rfl HLen.out HLr.out.ow (by decide)
                  have hrg := hrg0 i hiL
                  obtain ⟨di, hdi⟩ : ∃ di, di = ([d0, d1, d2] : List (List UInt8))[i] := ⟨_, rfl⟩
                  rw [← hdi] at hdl hrg
                  have Hdi := Lib.hid hdi
                  have Hdl := Lib.hid hdl
                  have Hrg := Lib.hid hrg
                  have Hds := Lib.hid (show (bytV di).toArray.size = 32 by rw [List.size_toArray, bytV_len, hdl])
                  have heq0 := fun w1 => eq_id (a := di) (b := d3) hdl Hl_d3.out w1
                  clear hdi hdl hrg hrg0
                  by_cases he : di = d3
                  · have heq : ∀ w1, (Op.equalIn 10000 37 (.agg (bytV di).toArray) (.agg (bytV d3).toArray)).run Tryd.prog w1 = .ok true w1 := fun w1 => by rw [heq0 w1, decide_eq_true he]
                    clear heq0 he
                    go_wp2_with (first | (refine wpList_load_mid rfl 37 (.tmp 64) rfl g3 (o3 + i * 32) rfl (bytV di) _ Hrg.out Tryd.underlying37 rfl (by rw [bytV_len, Hdl.out]; kernel_rfl) ?_) | (refine wpList_store_rowTo rfl 37 (.tmp 15) (.tmp 65) rfl rfl wr.heap.size (bytV di).toArray rfl rfl 37 _ (heap_alloc_new wr _) (id_size Hdl.out) (by rw [Hds.out]; rfl) (id_one _) ?_; refine box_absL (boxL_made wr _ 37 (bytV di)) ?_; intro wu hbx; have HBu := Lib.hid hbx; have HBv := Lib.hid (HBr.out.below hbx.b); have HLu0 := Lib.hid (HBk.out.trans (hbx.b.mono HBk.out.size)); clear hbx) | (refine wpList_load_mid rfl 37 (.tmp 15) rfl wr.heap.size 0 rfl (bytV di) _ (fun j y hj => by rw [Nat.zero_add]; exact HBu.out.r j y hj) Tryd.underlying37 rfl (by rw [bytV_len, Hdl.out]; kernel_rfl) ?_) | (refine wpList_load_mid rfl 37 (.tmp 13) rfl S3.heap.size 0 rfl (bytV d3) _ (fun j y hj => by rw [Nat.zero_add]; exact HBv.out.r j y hj) Tryd.underlying37 rfl (by rw [bytV_len, Hl_d3.out]; kernel_rfl) ?_))
                    go_ret
                    exact ⟨rfl, HW4.out.trans ((HLr.out.bl.trans (HBu.out.b.mono HLr.out.bl.size)).mono HW4.out.size)⟩
                  · have heq : ∀ w1, (Op.equalIn 10000 37 (.agg (bytV di).toArray) (.agg (bytV d3).toArray)).run Tryd.prog w1 = .ok false w1 := fun w1 => by rw [heq0 w1, decide_eq_false he]
                    have Hne := Lib.hid he
                    clear heq0 he
                    go_wp2_with (first | (refine wpList_load_mid rfl 37 (.tmp 64) rfl g3 (o3 + i * 32) rfl (bytV di) _ Hrg.out Tryd.underlying37 rfl (by rw [bytV_len, Hdl.out]; kernel_rfl) ?_) | (refine wpList_store_rowTo rfl 37 (.tmp 15) (.tmp 65) rfl rfl wr.heap.size (bytV di).toArray rfl rfl 37 _ (heap_alloc_new wr _) (id_size Hdl.out) (by rw [Hds.out]; rfl) (id_one _) ?_; refine box_absL (boxL_made wr _ 37 (bytV di)) ?_; intro wu hbx; have HBu := Lib.hid hbx; have HBv := Lib.hid (HBr.out.below hbx.b); have HLu0 := Lib.hid (HBk.out.trans (hbx.b.mono HBk.out.size)); clear hbx) | (refine wpList_load_mid rfl 37 (.tmp 15) rfl wr.heap.size 0 rfl (bytV di) _ (fun j y hj => by rw [Nat.zero_add]; exact HBu.out.r j y hj) Tryd.underlying37 rfl (by rw [bytV_len, Hdl.out]; kernel_rfl) ?_) | (refine wpList_load_mid rfl 37 (.tmp 13) rfl S3.heap.size 0 rfl (bytV d3) _ (fun j y hj => by rw [Nat.zero_add]; exact HBv.out.r j y hj) Tryd.underlying37 rfl (by rw [bytV_len, Hl_d3.out]; kernel_rfl) ?_))
                    go_roundg (gk - 1)
                    case measure => omega
                    case rel => exact ⟨i + 1, by omega, by go_num, HLu0.out, fun k hk h => by
                      rcases (by omega : k < i ∨ k = i) with hk2 | rfl
                      · exact HN.out k hk2 h
                      · intro e2; exact Hne.out (Hdi.out.trans e2)⟩
                · obtain rfl : i = 3 := by omega
                  have hltI : ¬ ((3 : Nat) : Int) < 3 := by decide
                  have N3 := Lib.hid HN.out
                  have hbl : (bytV d3).length = 32 := by rw [bytV_len]; exact Hl_d3.out
                  go_wp2_with (first | (refine wpList_load_mid rfl 37 (.tmp 13) rfl S3.heap.size 0 rfl (bytV d3) _ (fun j y hj => by rw [Nat.zero_add]; exact HBr.out.r j y hj) Tryd.underlying37 rfl (by rw [bytV_len, Hl_d3.out]; kernel_rfl) ?_) | (at_builtin; go_must (refine wpList_append_gen eltI rfl (.tmp 83) (.tmp 85) rfl rfl w4.heap.size _ [d0, d1, d2] rfl (HLr.out.below ((Below.refl _ _).alloc (Nat.le_refl _) _)).ow _ [d3] (LAt.block (by rw [bytV_len]; exact Hl_d3.out) (fold_all (bytV d3) #[.int .u8 0, .int .u8 0, .int .u8 0, .int .u8 0, .int .u8 0, .int .u8 0, .int .u8 0, .int .u8 0, .int .u8 0, .int .u8 0, .int .u8 0, .int .u8 0, .int .u8 0, .int .u8 0, .int .u8 0, .int .u8 0, .int .u8 0, .int .u8 0, .int .u8 0, .int .u8 0, .int .u8 0, .int .u8 0, .int .u8 0, .int .u8 0, .int .u8 0, .int .u8 0, .int .u8 0, .int .u8 0, .int .u8 0, .int .u8 0, .int .u8 0, .int .u8 0] (by rw [bytV_len, Hl_d3.out]; rfl)) (heap_alloc_new wr _)) rfl (by simp only [List.length_cons, List.length_nil]; omega) (by unfold maxLen; simp only [List.length_cons, List.length_nil]; omega) (by have := HLr.out.bl.size; simp; omega) ?_); intro va w5 ho5 hg5; have HLn := Lib.hid ((HLr.out.below ((Below.refl _ _).alloc (Nat.le_refl _) _)).put ho5 hg5); clear ho5 hg5))
                  replace HL := HLn
                  clear HLr HBr HBk HB HN HLn hbl
                  obtain ⟨pp, pc4, rfl⟩ := own_slice' (n := 4) HL.out.ow
                  have HLen := Lib.hid (lens_at (L := [d0, d1, d2, d3]) (by
                    intro y hy
                    simp only [List.mem_cons, List.not_mem_nil, or_false] at hy
                    rcases hy with h | h | h | h
                    · rw [h]; exact Hl_d0.out
                    · rw [h]; exact Hl_d1.out
                    · rw [h]; exact Hl_d2.out
                    · rw [h]; exact Hl_d3.out))
                  obtain ⟨g4, o4, rfl, hcap4, hmax4⟩ := row_at (n := 4) rfl HLen.out HL.out.ow (by decide)
                  rw [rounds_succ]
                  go_wp2_with (first | (refine wpList_index (ix2_0 _ _) rfl rfl rfl rfl ?_) | (refine wpList_index (ix2_1 _ _) rfl rfl rfl rfl ?_) | (refine wpList_index (ix3_0 _ _ _) rfl rfl rfl rfl ?_) | (refine wpList_index (ix3_1 _ _ _) rfl rfl rfl rfl ?_) | (refine wpList_index (ix3_2 _ _ _) rfl rfl rfl rfl ?_))
                  refine (DS4.out _ (HW4.out.trans (HL.out.bl.mono HW4.out.size))).mono ?_
                  rintro e S4 ⟨rfl, hB2⟩
                  replace HL := Lib.hid (HL.out.below hB2)
                  clear hB2
                  go_wp2_with (first | (refine wpList_store_rowTo rfl 37 (.tmp 13) (.tmp 58) rfl rfl S4.heap.size (bytV d4).toArray rfl rfl 37 _ (heap_alloc_new S4 _) (id_size Hl_d4.out) (by rw [Hs_d4.out]; rfl) (id_one _) ?_; refine box_absL (boxL_made S4 _ 37 (bytV d4)) ?_; intro wT hbx; have HB := Lib.hid hbx; replace HL := Lib.hid (HL.out.below hbx.b); clear hbx))
                  go_loopg [61] 4 (fun g iv wr => ∃ i : Nat, i + g = 4 ∧ iv = .int .i64 i ∧ Below wT.heap.size wT wr ∧ ∀ k, k < i → ∀ h : k < ([d0, d1, d2, d3] : List (List UInt8)).length, [d0, d1, d2, d3][k] ≠ d4)
                  case atStart => exact ⟨0, by omega, rfl, Below.refl _ _, fun k hk => absurd hk (by omega)⟩
                  case round =>
                    obtain ⟨i, hig, rfl, hBr, hno⟩ := hrel
                    have HLr := Lib.hid (HL.out.below hBr)
                    have HBr := Lib.hid (HB.out.below hBr)
                    have HBk := Lib.hid hBr
                    have HN := Lib.hid hno
                    clear hBr hno
                    by_cases hlt : i < 4
                    · have hltI : (i : Int) < 4 := by omega
                      have hiL : i < ([d0, d1, d2, d3] : List (List UInt8)).length := by simpa using hlt
                      have hdl := HLen.out i hiL
                      obtain ⟨hgl, hrg0⟩ := row_in (n := 4) rfl HLen.out HLr.out.ow (by decide)
                      have hrg := hrg0 i hiL
                      obtain ⟨di, hdi⟩ : ∃ di, di = ([d0, d1, d2, d3] : List (List UInt8))[i] := ⟨_, rfl⟩
                      rw [← hdi] at hdl hrg
                      have Hdi := Lib.hid hdi
                      have Hdl := Lib.hid hdl
                      have Hrg := Lib.hid hrg
                      have Hds := Lib.hid (show (bytV di).toArray.size = 32 by rw [List.size_toArray, bytV_len, hdl])
                      have heq0 := fun w1 => eq_id (a := di) (b := d4) hdl Hl_d4.out w1
                      clear hdi hdl hrg hrg0
                      by_cases he : di = d4
                      · have heq : ∀ w1, (Op.equalIn 10000 37 (.agg (bytV di).toArray) (.agg (bytV d4).toArray)).run Tryd.prog w1 = .ok true w1 := fun w1 => by rw [heq0 w1, decide_eq_true he]
                        clear heq0 he
                        go_wp2_with (first | (refine wpList_load_mid rfl 37 (.tmp 64) rfl g4 (o4 + i * 32) rfl (bytV di) _ Hrg.out Tryd.underlying37 rfl (by rw [bytV_len, Hdl.out]; kernel_rfl) ?_) | (refine wpList_store_rowTo rfl 37 (.tmp 15) (.tmp 65) rfl rfl wr.heap.size (bytV di).toArray rfl rfl 37 _ (heap_alloc_new wr _) (id_size Hdl.out) (by rw [Hds.out]; rfl) (id_one _) ?_; refine box_absL (boxL_made wr _ 37 (bytV di)) ?_; intro wu hbx; have HBu := Lib.hid hbx; have HBv := Lib.hid (HBr.out.below hbx.b); have HLu0 := Lib.hid (HBk.out.trans (hbx.b.mono HBk.out.size)); clear hbx) | (refine wpList_load_mid rfl 37 (.tmp 15) rfl wr.heap.size 0 rfl (bytV di) _ (fun j y hj => by rw [Nat.zero_add]; exact HBu.out.r j y hj) Tryd.underlying37 rfl (by rw [bytV_len, Hdl.out]; kernel_rfl) ?_) | (refine wpList_load_mid rfl 37 (.tmp 13) rfl S4.heap.size 0 rfl (bytV d4) _ (fun j y hj => by rw [Nat.zero_add]; exact HBv.out.r j y hj) Tryd.underlying37 rfl (by rw [bytV_len, Hl_d4.out]; kernel_rfl) ?_))
                        go_ret
                        exact ⟨rfl, HW4.out.trans ((HLr.out.bl.trans (HBu.out.b.mono HLr.out.bl.size)).mono HW4.out.size)⟩
                      · have heq : ∀ w1, (Op.equalIn 10000 37 (.agg (bytV di).toArray) (.agg (bytV d4).toArray)).run Tryd.prog w1 = .ok false w1 := fun w1 => by rw [heq0 w1, decide_eq_false he]
                        have Hne := Lib.hid he
                        clear heq0 he
                        go_wp2_with (first | (refine wpList_load_mid rfl 37 (.tmp 64) rfl g4 (o4 + i * 32) rfl (bytV di) _ Hrg.out Tryd.underlying37 rfl (by rw [bytV_len, Hdl.out]; kernel_rfl) ?_) | (refine wpList_store_rowTo rfl 37 (.tmp 15) (.tmp 65) rfl rfl wr.heap.size (bytV di).toArray rfl rfl 37 _ (heap_alloc_new wr _) (id_size Hdl.out) (by rw [Hds.out]; rfl) (id_one _) ?_; refine box_absL (boxL_made wr _ 37 (bytV di)) ?_; intro wu hbx; have HBu := Lib.hid hbx; have HBv := Lib.hid (HBr.out.below hbx.b); have HLu0 := Lib.hid (HBk.out.trans (hbx.b.mono HBk.out.size)); clear hbx) | (refine wpList_load_mid rfl 37 (.tmp 15) rfl wr.heap.size 0 rfl (bytV di) _ (fun j y hj => by rw [Nat.zero_add]; exact HBu.out.r j y hj) Tryd.underlying37 rfl (by rw [bytV_len, Hdl.out]; kernel_rfl) ?_) | (refine wpList_load_mid rfl 37 (.tmp 13) rfl S4.heap.size 0 rfl (bytV d4) _ (fun j y hj => by rw [Nat.zero_add]; exact HBv.out.r j y hj) Tryd.underlying37 rfl (by rw [bytV_len, Hl_d4.out]; kernel_rfl) ?_))
                        go_roundg (gk - 1)
                        case measure => omega
                        case rel => exact ⟨i + 1, by omega, by go_num, HLu0.out, fun k hk h => by
                          rcases (by omega : k < i ∨ k = i) with hk2 | rfl
                          · exact HN.out k hk2 h
                          · intro e2; exact Hne.out (Hdi.out.trans e2)⟩
                    · obtain rfl : i = 4 := by omega
                      have hltI : ¬ ((4 : Nat) : Int) < 4 := by decide
                      have N4 := Lib.hid HN.out
                      have hbl : (bytV d4).length = 32 := by rw [bytV_len]; exact Hl_d4.out
                      go_wp2_with (first | (refine wpList_load_mid rfl 37 (.tmp 13) rfl S4.heap.size 0 rfl (bytV d4) _ (fun j y hj => by rw [Nat.zero_add]; exact HBr.out.r j y hj) Tryd.underlying37 rfl (by rw [bytV_len, Hl_d4.out]; kernel_rfl) ?_) | (at_builtin; go_must (refine wpList_append_gen eltI rfl (.tmp 83) (.tmp 85) rfl rfl w4.heap.size _ [d0, d1, d2, d3] rfl (HLr.out.below ((Below.refl _ _).alloc (Nat.le_refl _) _)).ow _ [d4] (LAt.block (by rw [bytV_len]; exact Hl_d4.out) (fold_all (bytV d4) #[.int .u8 0, .int .u8 0, .int .u8 0, .int .u8 0, .int .u8 0, .int .u8 0, .int .u8 0, .int .u8 0, .int .u8 0, .int .u8 0, .int .u8 0, .int .u8 0, .int .u8 0, .int .u8 0, .int .u8 0, .int .u8 0, .int .u8 0, .int .u8 0, .int .u8 0, .int .u8 0, .int .u8 0, .int .u8 0, .int .u8 0, .int .u8 0, .int .u8 0, .int .u8 0, .int .u8 0, .int .u8 0, .int .u8 0, .int .u8 0, .int .u8 0, .int .u8 0] (by rw [bytV_len, Hl_d4.out]; rfl)) (heap_alloc_new wr _)) rfl (by simp only [List.length_cons, List.length_nil]; omega) (by unfold maxLen; simp only [List.length_cons, List.length_nil]; omega) (by have := HLr.out.bl.size; simp; omega) ?_); intro va w5 ho5 hg5; have HLn := Lib.hid ((HLr.out.below ((Below.refl _ _).alloc (Nat.le_refl _) _)).put ho5 hg5); clear ho5 hg5))
                      replace HL := HLn
                      clear HLr HBr HBk HB HN HLn hbl
                      obtain ⟨pp, pc5, rfl⟩ := own_slice' (n := 5) HL.out.ow
                      have HLen := Lib.hid (lens_at (L := [d0, d1, d2, d3, d4]) (by
                        intro y hy
                        simp only [List.mem_cons, List.not_mem_nil, or_false] at hy
                        rcases hy with h | h | h | h | h
                        · rw [h]; exact Hl_d0.out
                        · rw [h]; exact Hl_d1.out
                        · rw [h]; exact Hl_d2.out
                        · rw [h]; exact Hl_d3.out
                        · rw [h]; exact Hl_d4.out))
                      obtain ⟨g5, o5, rfl, hcap5, hmax5⟩ := row_at (n := 5) rfl HLen.out HL.out.ow (by decide)
                      rw [rounds_succ]
                      go_wp2_with (first | (refine wpList_index (ix2_0 _ _) rfl rfl rfl rfl ?_) | (refine wpList_index (ix2_1 _ _) rfl rfl rfl rfl ?_) | (refine wpList_index (ix3_0 _ _ _) rfl rfl rfl rfl ?_) | (refine wpList_index (ix3_1 _ _ _) rfl rfl rfl rfl ?_) | (refine wpList_index (ix3_2 _ _ _) rfl rfl rfl rfl ?_))
                      refine (DS5.out _ (HW4.out.trans (HL.out.bl.mono HW4.out.size))).mono ?_
                      rintro e S5 ⟨rfl, hB2⟩
                      replace HL := Lib.hid (HL.out.below hB2)
                      clear hB2
                      go_wp2_with (first | (refine wpList_store_rowTo rfl 37 (.tmp 13) (.tmp 58) rfl rfl S5.heap.size (bytV d5).toArray rfl rfl 37 _ (heap_alloc_new S5 _) (id_size Hl_d5.out) (by rw [Hs_d5.out]; rfl) (id_one _) ?_; refine box_absL (boxL_made S5 _ 37 (bytV d5)) ?_; intro wT hbx; have HB := Lib.hid hbx; replace HL := Lib.hid (HL.out.below hbx.b); clear hbx))
                      go_loopg [61] 5 (fun g iv wr => ∃ i : Nat, i + g = 5 ∧ iv = .int .i64 i ∧ Below wT.heap.size wT wr ∧ ∀ k, k < i → ∀ h : k < ([d0, d1, d2, d3, d4] : List (List UInt8)).length, [d0, d1, d2, d3, d4][k] ≠ d5)
                      case atStart => exact ⟨0, by omega, rfl, Below.refl _ _, fun k hk => absurd hk (by omega)⟩
                      case round =>
                        obtain ⟨i, hig, rfl, hBr, hno⟩ := hrel
                        have HLr := Lib.hid (HL.out.below hBr)
                        have HBr := Lib.hid (HB.out.below hBr)
                        have HBk := Lib.hid hBr
                        have HN := Lib.hid hno
                        clear hBr hno
                        by_cases hlt : i < 5
                        · have hltI : (i : Int) < 5 := by omega
                          have hiL : i < ([d0, d1, d2, d3, d4] : List (List UInt8)).length := by simpa using hlt
                          have hdl := HLen.out i hiL
                          obtain ⟨hgl, hrg0⟩ := row_in (n := 5) rfl HLen.out HLr.out.ow (by decide)
                          have hrg := hrg0 i hiL
                          obtain ⟨di, hdi⟩ : ∃ di, di = ([d0, d1, d2, d3, d4] : List (List UInt8))[i] := ⟨_, rfl⟩
                          rw [← hdi] at hdl hrg
                          have Hdi := Lib.hid hdi
                          have Hdl := Lib.hid hdl
                          have Hrg := Lib.hid hrg
                          have Hds := Lib.hid (show (bytV di).toArray.size = 32 by rw [List.size_toArray, bytV_len, hdl])
                          have heq0 := fun w1 => eq_id (a := di) (b := d5) hdl Hl_d5.out w1
                          clear hdi hdl hrg hrg0
                          by_cases he : di = d5
                          · have heq : ∀ w1, (Op.equalIn 10000 37 (.agg (bytV di).toArray) (.agg (bytV d5).toArray)).run Tryd.prog w1 = .ok true w1 := fun w1 => by rw [heq0 w1, decide_eq_true he]
                            clear heq0 he
                            go_wp2_with (first | (refine wpList_load_mid rfl 37 (.tmp 64) rfl g5 (o5 + i * 32) rfl (bytV di) _ Hrg.out Tryd.underlying37 rfl (by rw [bytV_len, Hdl.out]; kernel_rfl) ?_) | (refine wpList_store_rowTo rfl 37 (.tmp 15) (.tmp 65) rfl rfl wr.heap.size (bytV di).toArray rfl rfl 37 _ (heap_alloc_new wr _) (id_size Hdl.out) (by rw [Hds.out]; rfl) (id_one _) ?_; refine box_absL (boxL_made wr _ 37 (bytV di)) ?_; intro wu hbx; have HBu := Lib.hid hbx; have HBv := Lib.hid (HBr.out.below hbx.b); have HLu0 := Lib.hid (HBk.out.trans (hbx.b.mono HBk.out.size)); clear hbx) | (refine wpList_load_mid rfl 37 (.tmp 15) rfl wr.heap.size 0 rfl (bytV di) _ (fun j y hj => by rw [Nat.zero_add]; exact HBu.out.r j y hj) Tryd.underlying37 rfl (by rw [bytV_len, Hdl.out]; kernel_rfl) ?_) | (refine wpList_load_mid rfl 37 (.tmp 13) rfl S5.heap.size 0 rfl (bytV d5) _ (fun j y hj => by rw [Nat.zero_add]; exact HBv.out.r j y hj) Tryd.underlying37 rfl (by rw [bytV_len, Hl_d5.out]; kernel_rfl) ?_))
                            go_ret
                            exact ⟨rfl, HW4.out.trans ((HLr.out.bl.trans (HBu.out.b.mono HLr.out.bl.size)).mono HW4.out.size)⟩
                          · have heq : ∀ w1, (Op.equalIn 10000 37 (.agg (bytV di).toArray) (.agg (bytV d5).toArray)).run Tryd.prog w1 = .ok false w1 := fun w1 => by rw [heq0 w1, decide_eq_false he]
                            have Hne := Lib.hid he
                            clear heq0 he
                            go_wp2_with (first | (refine wpList_load_mid rfl 37 (.tmp 64) rfl g5 (o5 + i * 32) rfl (bytV di) _ Hrg.out Tryd.underlying37 rfl (by rw [bytV_len, Hdl.out]; kernel_rfl) ?_) | (refine wpList_store_rowTo rfl 37 (.tmp 15) (.tmp 65) rfl rfl wr.heap.size (bytV di).toArray rfl rfl 37 _ (heap_alloc_new wr _) (id_size Hdl.out) (by rw [Hds.out]; rfl) (id_one _) ?_; refine box_absL (boxL_made wr _ 37 (bytV di)) ?_; intro wu hbx; have HBu := Lib.hid hbx; have HBv := Lib.hid (HBr.out.below hbx.b); have HLu0 := Lib.hid (HBk.out.trans (hbx.b.mono HBk.out.size)); clear hbx) | (refine wpList_load_mid rfl 37 (.tmp 15) rfl wr.heap.size 0 rfl (bytV di) _ (fun j y hj => by rw [Nat.zero_add]; exact HBu.out.r j y hj) Tryd.underlying37 rfl (by rw [bytV_len, Hdl.out]; kernel_rfl) ?_) | (refine wpList_load_mid rfl 37 (.tmp 13) rfl S5.heap.size 0 rfl (bytV d5) _ (fun j y hj => by rw [Nat.zero_add]; exact HBv.out.r j y hj) Tryd.underlying37 rfl (by rw [bytV_len, Hl_d5.out]; kernel_rfl) ?_))
                            go_roundg (gk - 1)
                            case measure => omega
                            case rel => exact ⟨i + 1, by omega, by go_num, HLu0.out, fun k hk h => by
                              rcases (by omega : k < i ∨ k = i) with hk2 | rfl
                              · exact HN.out k hk2 h
                              · intro e2; exact Hne.out (Hdi.out.trans e2)⟩
                        · obtain rfl : i = 5 := by omega
                          have hltI : ¬ ((5 : Nat) : Int) < 5 := by decide
                          have N5 := Lib.hid HN.out
                          have hbl : (bytV d5).length = 32 := by rw [bytV_len]; exact Hl_d5.out
                          go_wp2_with (first | (refine wpList_load_mid rfl 37 (.tmp 13) rfl S5.heap.size 0 rfl (bytV d5) _ (fun j y hj => by rw [Nat.zero_add]; exact HBr.out.r j y hj) Tryd.underlying37 rfl (by rw [bytV_len, Hl_d5.out]; kernel_rfl) ?_) | (at_builtin; go_must (refine wpList_append_gen eltI rfl (.tmp 83) (.tmp 85) rfl rfl w4.heap.size _ [d0, d1, d2, d3, d4] rfl (HLr.out.below ((Below.refl _ _).alloc (Nat.le_refl _) _)).ow _ [d5] (LAt.block (by rw [bytV_len]; exact Hl_d5.out) (fold_all (bytV d5) #[.int .u8 0, .int .u8 0, .int .u8 0, .int .u8 0, .int .u8 0, .int .u8 0, .int .u8 0, .int .u8 0, .int .u8 0, .int .u8 0, .int .u8 0, .int .u8 0, .int .u8 0, .int .u8 0, .int .u8 0, .int .u8 0, .int .u8 0, .int .u8 0, .int .u8 0, .int .u8 0, .int .u8 0, .int .u8 0, .int .u8 0, .int .u8 0, .int .u8 0, .int .u8 0, .int .u8 0, .int .u8 0, .int .u8 0, .int .u8 0, .int .u8 0, .int .u8 0] (by rw [bytV_len, Hl_d5.out]; rfl)) (heap_alloc_new wr _)) rfl (by simp only [List.length_cons, List.length_nil]; omega) (by unfold maxLen; simp only [List.length_cons, List.length_nil]; omega) (by have := HLr.out.bl.size; simp; omega) ?_); intro va w5 ho5 hg5; have HLn := Lib.hid ((HLr.out.below ((Below.refl _ _).alloc (Nat.le_refl _) _)).put ho5 hg5); clear ho5 hg5))
                          replace HL := HLn
                          clear HLr HBr HBk HB HN HLn hbl
                          obtain ⟨pp, pc6, rfl⟩ := own_slice' (n := 6) HL.out.ow
                          have HLen := Lib.hid (lens_at (L := [d0, d1, d2, d3, d4, d5]) (by
                            intro y hy
                            simp only [List.mem_cons, List.not_mem_nil, or_false] at hy
                            rcases hy with h | h | h | h | h | h
                            · rw [h]; exact Hl_d0.out
                            · rw [h]; exact Hl_d1.out
                            · rw [h]; exact Hl_d2.out
                            · rw [h]; exact Hl_d3.out
                            · rw [h]; exact Hl_d4.out
                            · rw [h]; exact Hl_d5.out))
                          obtain ⟨g6, o6, rfl, hcap6, hmax6⟩ := row_at (n := 6) rfl HLen.out HL.out.ow (by decide)
                          rw [rounds_succ]
                          go_wp2_with fail
                          rw [rounds_succ]
                          go_wp2_with fail
                          have q03 := other37 d0 d3 Hl_d0.out Hl_d3.out (fun e => absurd e (N3.out 0 (by decide) (by simp)))
                          have q14 := other37 d1 d4 Hl_d1.out Hl_d4.out (fun e => absurd e (N4.out 1 (by decide) (by simp)))
                          have q25 := other37 d2 d5 Hl_d2.out Hl_d5.out (fun e => absurd e (N5.out 2 (by decide) (by simp)))
                          have q04 := other37 d0 d4 Hl_d0.out Hl_d4.out (fun e => absurd e (N4.out 0 (by decide) (by simp)))
                          have q15 := other37 d1 d5 Hl_d1.out Hl_d5.out (fun e => absurd e (N5.out 1 (by decide) (by simp)))
                          have q23 := other37 d2 d3 Hl_d2.out Hl_d3.out (fun e => absurd e (N3.out 2 (by decide) (by simp)))
                          have HX9 := Lib.hid (HX4.out.below HL.out.bl)
                          have HW9 := Lib.hid (HW4.out.trans (HL.out.bl.mono HW4.out.size))
                          have C30 := Lib.hid (DB30.out.cls HW9.out)
                          have C31 := Lib.hid (DB31.out.cls HW9.out)
                          have C32 := Lib.hid (DB32.out.cls HW9.out)
                          have LX0 := Lib.hid (fun w1 (h1 : Below w5.heap.size w5 w1) => load_r37 (d := d0) (HX9.out.below h1).a1 Hl_d0.out)
                          have LX1 := Lib.hid (fun w1 (h1 : Below w5.heap.size w5 w1) => load_r37 (d := d1) (HX9.out.below h1).a2 Hl_d1.out)
                          have LX2 := Lib.hid (fun w1 (h1 : Below w5.heap.size w5 w1) => load_r37 (d := d2) (HX9.out.below h1).a3 Hl_d2.out)
                          clear N0 N1 N2 N3 N4 N5 HLen
                          refine wp_region_class (Below w5.heap.size w5) (by kernel_rfl) (by kernel_rfl) (Below.refl _ _).drew ?_
                          repeat (go_big_quiet_step (first | (intro hh; with_reducible exact C30.out _ hh) | (intro hh; with_reducible exact C31.out _ hh) | (intro hh; with_reducible exact C32.out _ hh) | (intro _; rfl)))
                          refine wpQuiet_load_at rfl 37 (.tmp 5) rfl ⟨w3.heap.size, 0, none⟩ rfl (.agg (bytV d0).toArray) LX0.out ?_
                          simp only [Act.put, List.setIfInBounds_toArray, List.set_cons_succ, List.set_cons_zero]
                          repeat (go_big_quiet_step (first | (intro hh; with_reducible exact C30.out _ hh) | (intro hh; with_reducible exact C31.out _ hh) | (intro hh; with_reducible exact C32.out _ hh) | (intro _; rfl)))
                          refine wpQuiet_load_at (by simp [Region.wanted, yielded, Act.put]) 37 (.tmp 6) rfl ⟨w3.heap.size + 1, 0, none⟩ rfl (.agg (bytV d1).toArray) LX1.out ?_
                          simp only [Act.put, List.setIfInBounds_toArray, List.set_cons_succ, List.set_cons_zero]
                          repeat (go_big_quiet_step (first | (intro hh; with_reducible exact C30.out _ hh) | (intro hh; with_reducible exact C31.out _ hh) | (intro hh; with_reducible exact C32.out _ hh) | (intro _; rfl)))
                          refine wpQuiet_load_at (by simp [Region.wanted, yielded, Act.put]) 37 (.tmp 7) rfl ⟨w3.heap.size + 2, 0, none⟩ rfl (.agg (bytV d2).toArray) LX2.out ?_
                          simp only [Act.put, List.setIfInBounds_toArray, List.set_cons_succ, List.set_cons_zero]
                          repeat (go_big_quiet_step (first | (intro hh; with_reducible exact C30.out _ hh) | (intro hh; with_reducible exact C31.out _ hh) | (intro hh; with_reducible exact C32.out _ hh) | (intro _; rfl)))
                          refine wpQuiet_load_at (by simp [Region.wanted, yielded, Act.put]) 37 (.tmp 5) rfl ⟨w3.heap.size, 0, none⟩ rfl (.agg (bytV d0).toArray) LX0.out ?_
                          simp only [Act.put, List.setIfInBounds_toArray, List.set_cons_succ, List.set_cons_zero]
                          repeat (go_big_quiet_step (first | (intro hh; with_reducible exact C30.out _ hh) | (intro hh; with_reducible exact C31.out _ hh) | (intro hh; with_reducible exact C32.out _ hh) | (intro _; rfl)))
                          refine wpQuiet_load_at (by simp [Region.wanted, yielded, Act.put]) 37 (.tmp 6) rfl ⟨w3.heap.size + 1, 0, none⟩ rfl (.agg (bytV d1).toArray) LX1.out ?_
                          simp only [Act.put, List.setIfInBounds_toArray, List.set_cons_succ, List.set_cons_zero]
                          repeat (go_big_quiet_step (first | (intro hh; with_reducible exact C30.out _ hh) | (intro hh; with_reducible exact C31.out _ hh) | (intro hh; with_reducible exact C32.out _ hh) | (intro _; rfl)))
                          refine wpQuiet_load_at (by simp [Region.wanted, yielded, Act.put]) 37 (.tmp 7) rfl ⟨w3.heap.size + 2, 0, none⟩ rfl (.agg (bytV d2).toArray) LX2.out ?_
                          simp only [Act.put, List.setIfInBounds_toArray, List.set_cons_succ, List.set_cons_zero]
                          repeat (go_big_quiet_step (first | (intro hh; with_reducible exact C30.out _ hh) | (intro hh; with_reducible exact C31.out _ hh) | (intro hh; with_reducible exact C32.out _ hh) | (intro _; rfl)))
                          refine wpQuiet_nil ?_
                          intro wq hBq
                          go_wp2_with fail
                          go_ret
                          exact ⟨rfl, HW9.out.trans (hBq.mono HW9.out.size)⟩
end Go.Proofs.YtdhaanaenklleaaDoor
