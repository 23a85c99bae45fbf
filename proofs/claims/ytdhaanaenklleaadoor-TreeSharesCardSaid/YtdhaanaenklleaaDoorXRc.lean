/- Walks: the names of things, by the code and by the document. -/
import Derived.Test.YtdhaanaenklleaaDoorXN6
import Derived.Test.YtdhaanaenklleaaDoorXSy
import Derived.Lib.ConvBytes
namespace Go.Proofs.YtdhaanaenklleaaDoor
set_option linter.unusedVariables false
set_option linter.unusedSimpArgs false
open Go.ChangeShapes Go.WideShapes Go.ChangeAt Go.RowKit

/-- The digest of a text for a purpose. -/
def dg (k s : ByteArray) : List Nat := S.shaL (S.bytesL (S.joinB [k, s]))
theorem dg_len (k s : ByteArray) : (dg k s).length = 32 := S.shaL_len _
theorem dg_small (k s : ByteArray) : S.Small 256 (dg k s) := S.shaL_small _
theorem ky37 : Tryd.prog.keyTypeAt 2 37 = true := by kernel_rfl
theorem co5' : Tryd.prog.cellsOf 5 = 1 := by kernel_rfl
theorem co37 : Tryd.prog.cellsOf 37 = 32 := by kernel_rfl
theorem eq37 (a b : List Nat) (ha : a.length = 32) (hb : b.length = 32) (hsa : S.Small 256 a) (hsb : S.Small 256 b) (w : World) : (Op.equalIn 10000 37 (.agg (S.ints .u8 a)) (.agg (S.ints .u8 b))).run Tryd.prog w = .ok (decide (a = b)) w :=
  S.eq_rows 37 5 32 Tryd.underlying37 Tryd.underlying5 co5' co37 ky37 a b ha hb hsa hsb w
theorem size37 (l : List Nat) (h : l.length = 32) : (Tryd.prog.info? 37).map (·.size) = some (S.ints .u8 l).size := by rw [S.ints_size, h]; kernel_rfl
theorem strs_cells {w : World} {B : Nat} {zs : List ByteArray} (h : w.heap[B]? = some (.cells (zs.map Value.string).toArray 9 (0, 0))) (hm : zs.length ≤ maxLen) : Strs w (.slice (some ⟨B, 0, none⟩) zs.length zs.length) zs := by
  refine .inr ⟨B, 0, zs.length, rfl, Nat.le_refl _, hm, (Array.getElem?_eq_some_iff.1 h).1, fun i hi => ?_⟩
  simp [World.cell?, h, hi, List.getD_eq_getElem?_getD]
theorem conv_made (s : ByteArray) (w : World) (hs : s.size ≤ 9223372036854775807) : ∃ v w', (convert 9 59 (.string s)).run Tryd.prog w = .ok v w' ∧ S.BytsN w' v (S.bytesL s) ∧ Below w.heap.size w w' := by
  refine ⟨_, _, Lib.run_convert_string_bytes w 9 59 5 s Tryd.underlying9 Tryd.underlying59 Tryd.underlying5, ?_, ?_⟩
  · have hl := S.bytesL_len s
    refine .inr (.inr ⟨w.heap.size, 0, grownCap w s.size 0 5, by rw [hl], by rw [hl]; exact grownCap_ge _ _ _ _, grownCap_le_maxLen _ _ _ _ (by unfold maxLen; omega), by rw [Lib.bytesWorld_size]; omega, fun i hi => ?_⟩)
    rw [hl] at hi
    rw [Nat.zero_add, Lib.bytesWorld_cell _ _ _ _ hi]
    have hi2 : i < s.data.toList.length := by rw [← Lib.size_eq]; exact hi
    simp only [S.bytesL, List.getD_eq_getElem?_getD, List.getElem?_map, List.getElem?_eq_getElem hi2, Option.map_some, Option.getD_some]
  · exact ⟨by simp [Lib.bytesWorld, World.freeze, World.alloc, World.drew, -World.alloc_eq, -World.drew_eq], by simp [Lib.bytesWorld, World.freeze, World.alloc, World.drew, -World.alloc_eq, -World.drew_eq], by simp [Lib.bytesWorld, World.freeze, World.alloc, World.drew, -World.alloc_eq, -World.drew_eq], by rw [Lib.bytesWorld_size]; omega, fun k hk => Lib.bytesWorld_at_old _ _ _ _ hk⟩
/-- The call's result cell, of 32 bytes. -/
structure Res37 (w x : World) : Prop where
  at_ : ∃ cs, x.heap[w.heap.size]? = some (.cells cs 37 (0, 0)) ∧ cs.size = 32
  b : Below w.heap.size w x
theorem Res37.below {w x y : World} (h : Res37 w x) (hB : Below x.heap.size x y) : Res37 w y := by
  obtain ⟨cs, h1, h2⟩ := h.at_
  exact ⟨⟨cs, (hB.block _ (Array.getElem?_eq_some_iff.1 h1).1).trans h1, h2⟩, h.b.trans (hB.mono h.b.size)⟩
theorem Res37.made (w : World) (cs : Array Value) (h : cs.size = 32) : Res37 w (w.alloc (.cells cs 37)) := ⟨⟨cs, heap_alloc_new _ _, h⟩, (Below.refl _ _).alloc (Nat.le_refl _) _⟩
theorem total_two (k s : ByteArray) : S.total [k, s] = k.size + s.size := by simp [S.total]

set_option maxRecDepth 100000 in
set_option maxHeartbeats 4000000 in
theorem name30_any (s : ByteArray) (w : World) (hK : S.KeysAt w) (hs : s.size ≤ 4096) : Calls Tryd.prog 30 #[.string s] w fun e w' => e = .returned (.agg (S.ints .u8 (dg ⟨#[98, 108, 111, 98]⟩ s))) ∧ Below w.heap.size w w' := by
  have HB := Lib.hid (((Below.refl w.heap.size w).alloc (Nat.le_refl _) (.cells #[.int .u8 0, .int .u8 0, .int .u8 0, .int .u8 0, .int .u8 0, .int .u8 0, .int .u8 0, .int .u8 0, .int .u8 0, .int .u8 0, .int .u8 0, .int .u8 0, .int .u8 0, .int .u8 0, .int .u8 0, .int .u8 0, .int .u8 0, .int .u8 0, .int .u8 0, .int .u8 0, .int .u8 0, .int .u8 0, .int .u8 0, .int .u8 0, .int .u8 0, .int .u8 0, .int .u8 0, .int .u8 0, .int .u8 0, .int .u8 0, .int .u8 0, .int .u8 0] 37)).alloc (by simp) (.cells #[.string s] 9))
  have HR := Lib.hid ((Res37.made w #[.int .u8 0, .int .u8 0, .int .u8 0, .int .u8 0, .int .u8 0, .int .u8 0, .int .u8 0, .int .u8 0, .int .u8 0, .int .u8 0, .int .u8 0, .int .u8 0, .int .u8 0, .int .u8 0, .int .u8 0, .int .u8 0, .int .u8 0, .int .u8 0, .int .u8 0, .int .u8 0, .int .u8 0, .int .u8 0, .int .u8 0, .int .u8 0, .int .u8 0, .int .u8 0, .int .u8 0, .int .u8 0, .int .u8 0, .int .u8 0, .int .u8 0, .int .u8 0] rfl).below ((Below.refl _ _).alloc (Nat.le_refl _) (.cells #[.string s] 9)))
  have HS := Lib.hid (S.sum_any ⟨#[98, 108, 111, 98]⟩ (.slice (some ⟨w.heap.size + 1, 0, none⟩) 1 1) [s] ((w.alloc (.cells #[.int .u8 0, .int .u8 0, .int .u8 0, .int .u8 0, .int .u8 0, .int .u8 0, .int .u8 0, .int .u8 0, .int .u8 0, .int .u8 0, .int .u8 0, .int .u8 0, .int .u8 0, .int .u8 0, .int .u8 0, .int .u8 0, .int .u8 0, .int .u8 0, .int .u8 0, .int .u8 0, .int .u8 0, .int .u8 0, .int .u8 0, .int .u8 0, .int .u8 0, .int .u8 0, .int .u8 0, .int .u8 0, .int .u8 0, .int .u8 0, .int .u8 0, .int .u8 0] 37)).alloc (.cells #[.string s] 9)) (hK.below hK.1 HB.out)
    (strs_cells (zs := [s]) (by have h := heap_alloc_new (w.alloc (.cells #[.int .u8 0, .int .u8 0, .int .u8 0, .int .u8 0, .int .u8 0, .int .u8 0, .int .u8 0, .int .u8 0, .int .u8 0, .int .u8 0, .int .u8 0, .int .u8 0, .int .u8 0, .int .u8 0, .int .u8 0, .int .u8 0, .int .u8 0, .int .u8 0, .int .u8 0, .int .u8 0, .int .u8 0, .int .u8 0, .int .u8 0, .int .u8 0, .int .u8 0, .int .u8 0, .int .u8 0, .int .u8 0, .int .u8 0, .int .u8 0, .int .u8 0, .int .u8 0] 37)) (.cells #[.string s] 9); simpa using h) (by unfold maxLen; simp)) (by rw [total_two]; exact Nat.le_trans (Nat.add_le_add (show (⟨#[98, 108, 111, 98]⟩ : ByteArray).size ≤ 6 by decide) hs) (by omega)) (by simp))
  clear HB hK
  go_enter Tryd.func30, Tryd.ntmps30
  go_wp2_with fail
  refine HS.out.mono ?_
  rintro e w1 ⟨rfl, hB1⟩
  obtain ⟨cs, hcs, hcz⟩ := (HR.out.below hB1).at_
  have HB1 := Lib.hid (HR.out.below hB1).b
  have hd : S.shaL (S.bytesL (S.joinB (⟨#[98, 108, 111, 98]⟩ :: [s]))) = dg ⟨#[98, 108, 111, 98]⟩ s := rfl
  rw [hd]
  have Hz := Lib.hid (size37 _ (dg_len ⟨#[98, 108, 111, 98]⟩ s))
  have Hone := Lib.hid (S.ints_one .u8 (dg ⟨#[98, 108, 111, 98]⟩ s))
  have Hs := Lib.hid (show (S.ints .u8 (dg ⟨#[98, 108, 111, 98]⟩ s)).size = 32 by rw [S.ints_size, dg_len])
  obtain ⟨R, hRe⟩ : ∃ R, R = S.ints .u8 (dg ⟨#[98, 108, 111, 98]⟩ s) := ⟨_, rfl⟩
  rw [← hRe] at Hz Hone Hs ⊢
  have HRe := Lib.hid hRe
  clear hRe
  clear hB1 hd HS HR
  go_wp2_with (first | (refine wpList_store_rowTo rfl 37 _ _ rfl rfl w.heap.size R rfl rfl 37 cs hcs Hz.out (by rw [hcz, Hs.out]) Hone.out ?_))
  exact bodyPost_ret (v := .agg R) (results_cell_row (fr := (0, 0)) rfl _ _ w.heap.size 37 _ _ rfl (setRow_heap _ _ _ R 37 (0, 0) hcs) Tryd.underlying37 rfl Hz.out) rfl ⟨by rw [HRe.out], below_setRow HB1.out (Nat.le_refl _) R⟩

set_option maxRecDepth 100000 in
set_option maxHeartbeats 4000000 in
theorem name31_any (s : ByteArray) (w : World) (hK : S.KeysAt w) (hs : s.size ≤ 4096) : Calls Tryd.prog 31 #[.string s] w fun e w' => e = .returned (.agg (S.ints .u8 (dg ⟨#[116, 114, 101, 101]⟩ s))) ∧ Below w.heap.size w w' := by
  have HB := Lib.hid (((Below.refl w.heap.size w).alloc (Nat.le_refl _) (.cells #[.int .u8 0, .int .u8 0, .int .u8 0, .int .u8 0, .int .u8 0, .int .u8 0, .int .u8 0, .int .u8 0, .int .u8 0, .int .u8 0, .int .u8 0, .int .u8 0, .int .u8 0, .int .u8 0, .int .u8 0, .int .u8 0, .int .u8 0, .int .u8 0, .int .u8 0, .int .u8 0, .int .u8 0, .int .u8 0, .int .u8 0, .int .u8 0, .int .u8 0, .int .u8 0, .int .u8 0, .int .u8 0, .int .u8 0, .int .u8 0, .int .u8 0, .int .u8 0] 37)).alloc (by simp) (.cells #[.string s] 9))
  have HR := Lib.hid ((Res37.made w #[.int .u8 0, .int .u8 0, .int .u8 0, .int .u8 0, .int .u8 0, .int .u8 0, .int .u8 0, .int .u8 0, .int .u8 0, .int .u8 0, .int .u8 0, .int .u8 0, .int .u8 0, .int .u8 0, .int .u8 0, .int .u8 0, .int .u8 0, .int .u8 0, .int .u8 0, .int .u8 0, .int .u8 0, .int .u8 0, .int .u8 0, .int .u8 0, .int .u8 0, .int .u8 0, .int .u8 0, .int .u8 0, .int .u8 0, .int .u8 0, .int .u8 0, .int .u8 0] rfl).below ((Below.refl _ _).alloc (Nat.le_refl _) (.cells #[.string s] 9)))
  have HS := Lib.hid (S.sum_any ⟨#[116, 114, 101, 101]⟩ (.slice (some ⟨w.heap.size + 1, 0, none⟩) 1 1) [s] ((w.alloc (.cells #[.int .u8 0, .int .u8 0, .int .u8 0, .int .u8 0, .int .u8 0, .int .u8 0, .int .u8 0, .int .u8 0, .int .u8 0, .int .u8 0, .int .u8 0, .int .u8 0, .int .u8 0, .int .u8 0, .int .u8 0, .int .u8 0, .int .u8 0, .int .u8 0, .int .u8 0, .int .u8 0, .int .u8 0, .int .u8 0, .int .u8 0, .int .u8 0, .int .u8 0, .int .u8 0, .int .u8 0, .int .u8 0, .int .u8 0, .int .u8 0, .int .u8 0, .int .u8 0] 37)).alloc (.cells #[.string s] 9)) (hK.below hK.1 HB.out)
    (strs_cells (zs := [s]) (by have h := heap_alloc_new (w.alloc (.cells #[.int .u8 0, .int .u8 0, .int .u8 0, .int .u8 0, .int .u8 0, .int .u8 0, .int .u8 0, .int .u8 0, .int .u8 0, .int .u8 0, .int .u8 0, .int .u8 0, .int .u8 0, .int .u8 0, .int .u8 0, .int .u8 0, .int .u8 0, .int .u8 0, .int .u8 0, .int .u8 0, .int .u8 0, .int .u8 0, .int .u8 0, .int .u8 0, .int .u8 0, .int .u8 0, .int .u8 0, .int .u8 0, .int .u8 0, .int .u8 0, .int .u8 0, .int .u8 0] 37)) (.cells #[.string s] 9); simpa using h) (by unfold maxLen; simp)) (by rw [total_two]; exact Nat.le_trans (Nat.add_le_add (show (⟨#[116, 114, 101, 101]⟩ : ByteArray).size ≤ 6 by decide) hs) (by omega)) (by simp))
  clear HB hK
  go_enter Tryd.func31, Tryd.ntmps31
  go_wp2_with fail
  refine HS.out.mono ?_
  rintro e w1 ⟨rfl, hB1⟩
  obtain ⟨cs, hcs, hcz⟩ := (HR.out.below hB1).at_
  have HB1 := Lib.hid (HR.out.below hB1).b
  have hd : S.shaL (S.bytesL (S.joinB (⟨#[116, 114, 101, 101]⟩ :: [s]))) = dg ⟨#[116, 114, 101, 101]⟩ s := rfl
  rw [hd]
  have Hz := Lib.hid (size37 _ (dg_len ⟨#[116, 114, 101, 101]⟩ s))
  have Hone := Lib.hid (S.ints_one .u8 (dg ⟨#[116, 114, 101, 101]⟩ s))
  have Hs := Lib.hid (show (S.ints .u8 (dg ⟨#[116, 114, 101, 101]⟩ s)).size = 32 by rw [S.ints_size, dg_len])
  obtain ⟨R, hRe⟩ : ∃ R, R = S.ints .u8 (dg ⟨#[116, 114, 101, 101]⟩ s) := ⟨_, rfl⟩
  rw [← hRe] at Hz Hone Hs ⊢
  have HRe := Lib.hid hRe
  clear hRe
  clear hB1 hd HS HR
  go_wp2_with (first | (refine wpList_store_rowTo rfl 37 _ _ rfl rfl w.heap.size R rfl rfl 37 cs hcs Hz.out (by rw [hcz, Hs.out]) Hone.out ?_))
  exact bodyPost_ret (v := .agg R) (results_cell_row (fr := (0, 0)) rfl _ _ w.heap.size 37 _ _ rfl (setRow_heap _ _ _ R 37 (0, 0) hcs) Tryd.underlying37 rfl Hz.out) rfl ⟨by rw [HRe.out], below_setRow HB1.out (Nat.le_refl _) R⟩

set_option maxRecDepth 100000 in
set_option maxHeartbeats 4000000 in
theorem name32_any (s : ByteArray) (w : World) (hK : S.KeysAt w) (hs : s.size ≤ 4096) : Calls Tryd.prog 32 #[.string s] w fun e w' => e = .returned (.agg (S.ints .u8 (dg ⟨#[99, 111, 109, 109, 105, 116]⟩ s))) ∧ Below w.heap.size w w' := by
  have HB := Lib.hid (((Below.refl w.heap.size w).alloc (Nat.le_refl _) (.cells #[.int .u8 0, .int .u8 0, .int .u8 0, .int .u8 0, .int .u8 0, .int .u8 0, .int .u8 0, .int .u8 0, .int .u8 0, .int .u8 0, .int .u8 0, .int .u8 0, .int .u8 0, .int .u8 0, .int .u8 0, .int .u8 0, .int .u8 0, .int .u8 0, .int .u8 0, .int .u8 0, .int .u8 0, .int .u8 0, .int .u8 0, .int .u8 0, .int .u8 0, .int .u8 0, .int .u8 0, .int .u8 0, .int .u8 0, .int .u8 0, .int .u8 0, .int .u8 0] 37)).alloc (by simp) (.cells #[.string s] 9))
  have HR := Lib.hid ((Res37.made w #[.int .u8 0, .int .u8 0, .int .u8 0, .int .u8 0, .int .u8 0, .int .u8 0, .int .u8 0, .int .u8 0, .int .u8 0, .int .u8 0, .int .u8 0, .int .u8 0, .int .u8 0, .int .u8 0, .int .u8 0, .int .u8 0, .int .u8 0, .int .u8 0, .int .u8 0, .int .u8 0, .int .u8 0, .int .u8 0, .int .u8 0, .int .u8 0, .int .u8 0, .int .u8 0, .int .u8 0, .int .u8 0, .int .u8 0, .int .u8 0, .int .u8 0, .int .u8 0] rfl).below ((Below.refl _ _).alloc (Nat.le_refl _) (.cells #[.string s] 9)))
  have HS := Lib.hid (S.sum_any ⟨#[99, 111, 109, 109, 105, 116]⟩ (.slice (some ⟨w.heap.size + 1, 0, none⟩) 1 1) [s] ((w.alloc (.cells #[.int .u8 0, .int .u8 0, .int .u8 0, .int .u8 0, .int .u8 0, .int .u8 0, .int .u8 0, .int .u8 0, .int .u8 0, .int .u8 0, .int .u8 0, .int .u8 0, .int .u8 0, .int .u8 0, .int .u8 0, .int .u8 0, .int .u8 0, .int .u8 0, .int .u8 0, .int .u8 0, .int .u8 0, .int .u8 0, .int .u8 0, .int .u8 0, .int .u8 0, .int .u8 0, .int .u8 0, .int .u8 0, .int .u8 0, .int .u8 0, .int .u8 0, .int .u8 0] 37)).alloc (.cells #[.string s] 9)) (hK.below hK.1 HB.out)
    (strs_cells (zs := [s]) (by have h := heap_alloc_new (w.alloc (.cells #[.int .u8 0, .int .u8 0, .int .u8 0, .int .u8 0, .int .u8 0, .int .u8 0, .int .u8 0, .int .u8 0, .int .u8 0, .int .u8 0, .int .u8 0, .int .u8 0, .int .u8 0, .int .u8 0, .int .u8 0, .int .u8 0, .int .u8 0, .int .u8 0, .int .u8 0, .int .u8 0, .int .u8 0, .int .u8 0, .int .u8 0, .int .u8 0, .int .u8 0, .int .u8 0, .int .u8 0, .int .u8 0, .int .u8 0, .int .u8 0, .int .u8 0, .int .u8 0] 37)) (.cells #[.string s] 9); simpa using h) (by unfold maxLen; simp)) (by rw [total_two]; exact Nat.le_trans (Nat.add_le_add (show (⟨#[99, 111, 109, 109, 105, 116]⟩ : ByteArray).size ≤ 6 by decide) hs) (by omega)) (by simp))
  clear HB hK
  go_enter Tryd.func32, Tryd.ntmps32
  go_wp2_with fail
  refine HS.out.mono ?_
  rintro e w1 ⟨rfl, hB1⟩
  obtain ⟨cs, hcs, hcz⟩ := (HR.out.below hB1).at_
  have HB1 := Lib.hid (HR.out.below hB1).b
  have hd : S.shaL (S.bytesL (S.joinB (⟨#[99, 111, 109, 109, 105, 116]⟩ :: [s]))) = dg ⟨#[99, 111, 109, 109, 105, 116]⟩ s := rfl
  rw [hd]
  have Hz := Lib.hid (size37 _ (dg_len ⟨#[99, 111, 109, 109, 105, 116]⟩ s))
  have Hone := Lib.hid (S.ints_one .u8 (dg ⟨#[99, 111, 109, 109, 105, 116]⟩ s))
  have Hs := Lib.hid (show (S.ints .u8 (dg ⟨#[99, 111, 109, 109, 105, 116]⟩ s)).size = 32 by rw [S.ints_size, dg_len])
  obtain ⟨R, hRe⟩ : ∃ R, R = S.ints .u8 (dg ⟨#[99, 111, 109, 109, 105, 116]⟩ s) := ⟨_, rfl⟩
  rw [← hRe] at Hz Hone Hs ⊢
  have HRe := Lib.hid hRe
  clear hRe
  clear hB1 hd HS HR
  go_wp2_with (first | (refine wpList_store_rowTo rfl 37 _ _ rfl rfl w.heap.size R rfl rfl 37 cs hcs Hz.out (by rw [hcz, Hs.out]) Hone.out ?_))
  exact bodyPost_ret (v := .agg R) (results_cell_row (fr := (0, 0)) rfl _ _ w.heap.size 37 _ _ rfl (setRow_heap _ _ _ R 37 (0, 0) hcs) Tryd.underlying37 rfl Hz.out) rfl ⟨by rw [HRe.out], below_setRow HB1.out (Nat.le_refl _) R⟩

set_option maxRecDepth 100000 in
set_option maxHeartbeats 4000000 in
theorem refSum_any (k s : ByteArray) (w : World) (hk : k.size ≤ 16) (hs : s.size ≤ 4096) : Calls Tryd.prog 33 #[.string k, .string s] w fun e w' => e = .returned (.agg (S.ints .u8 (dg k s))) ∧ Below w.heap.size w w' := by
  have HR := Lib.hid ((Res37.made w #[.int .u8 0, .int .u8 0, .int .u8 0, .int .u8 0, .int .u8 0, .int .u8 0, .int .u8 0, .int .u8 0, .int .u8 0, .int .u8 0, .int .u8 0, .int .u8 0, .int .u8 0, .int .u8 0, .int .u8 0, .int .u8 0, .int .u8 0, .int .u8 0, .int .u8 0, .int .u8 0, .int .u8 0, .int .u8 0, .int .u8 0, .int .u8 0, .int .u8 0, .int .u8 0, .int .u8 0, .int .u8 0, .int .u8 0, .int .u8 0, .int .u8 0, .int .u8 0] rfl).below ((Below.refl _ _).alloc (Nat.le_refl _) (.cells #[.string k, .string s] 9)))
  have HS := Lib.hid (S.refJoin_any (.slice (some ⟨w.heap.size + 1, 0, none⟩) 2 2) [k, s] ((w.alloc (.cells #[.int .u8 0, .int .u8 0, .int .u8 0, .int .u8 0, .int .u8 0, .int .u8 0, .int .u8 0, .int .u8 0, .int .u8 0, .int .u8 0, .int .u8 0, .int .u8 0, .int .u8 0, .int .u8 0, .int .u8 0, .int .u8 0, .int .u8 0, .int .u8 0, .int .u8 0, .int .u8 0, .int .u8 0, .int .u8 0, .int .u8 0, .int .u8 0, .int .u8 0, .int .u8 0, .int .u8 0, .int .u8 0, .int .u8 0, .int .u8 0, .int .u8 0, .int .u8 0] 37)).alloc (.cells #[.string k, .string s] 9))
    (strs_cells (zs := [k, s]) (by have h := heap_alloc_new (w.alloc (.cells #[.int .u8 0, .int .u8 0, .int .u8 0, .int .u8 0, .int .u8 0, .int .u8 0, .int .u8 0, .int .u8 0, .int .u8 0, .int .u8 0, .int .u8 0, .int .u8 0, .int .u8 0, .int .u8 0, .int .u8 0, .int .u8 0, .int .u8 0, .int .u8 0, .int .u8 0, .int .u8 0, .int .u8 0, .int .u8 0, .int .u8 0, .int .u8 0, .int .u8 0, .int .u8 0, .int .u8 0, .int .u8 0, .int .u8 0, .int .u8 0, .int .u8 0, .int .u8 0] 37)) (.cells #[.string k, .string s] 9); simpa using h) (by unfold maxLen; simp)) (by rw [total_two]; omega) (by simp))
  have hsz : (S.joinB [k, s]).size ≤ 8192 := by rw [sjoin_size, total_two]; simp only [List.length_cons, List.length_nil]; omega
  have Hsz := Lib.hid hsz
  go_enter Tryd.func33, Tryd.ntmps33
  go_wp2_with fail
  refine HS.out.mono ?_
  rintro e w1 ⟨rfl, hB1⟩
  replace HR := Lib.hid (HR.out.below hB1)
  obtain ⟨v, w2, hcv, hv, hB2⟩ := conv_made (S.joinB [k, s]) w1 (by omega)
  replace HR := Lib.hid (HR.out.below hB2)
  have HO := Lib.hid (S.dof_any v (S.bytesL (S.joinB [k, s])) w2 hv (S.bytesL_small _) (by rw [S.bytesL_len]; omega))
  clear hB1 hB2 HS hv
  go_wp2_with fail
  refine HO.out.mono ?_
  rintro e w3 ⟨rfl, hB3⟩
  obtain ⟨cs, hcs, hcz⟩ := (HR.out.below hB3).at_
  have HB1 := Lib.hid (HR.out.below hB3).b
  have hd : S.shaL (S.bytesL (S.joinB [k, s])) = dg k s := rfl
  rw [hd]
  have Hz := Lib.hid (size37 _ (dg_len k s))
  have Hone := Lib.hid (S.ints_one .u8 (dg k s))
  have Hs := Lib.hid (show (S.ints .u8 (dg k s)).size = 32 by rw [S.ints_size, dg_len])
  obtain ⟨R, hRe⟩ : ∃ R, R = S.ints .u8 (dg k s) := ⟨_, rfl⟩
  rw [← hRe] at Hz Hone Hs ⊢
  have HRe := Lib.hid hRe
  clear hRe
  clear hB3 hd HO HR
  go_wp2_with (first | (refine wpList_store_rowTo rfl 37 _ _ rfl rfl w.heap.size R rfl rfl 37 cs hcs Hz.out (by rw [hcz, Hs.out]) Hone.out ?_))
  exact bodyPost_ret (v := .agg R) (results_cell_row (fr := (0, 0)) rfl _ _ w.heap.size 37 _ _ rfl (setRow_heap _ _ _ R 37 (0, 0) hcs) Tryd.underlying37 rfl Hz.out) rfl ⟨by rw [HRe.out], below_setRow HB1.out (Nat.le_refl _) R⟩
end Go.Proofs.YtdhaanaenklleaaDoor
