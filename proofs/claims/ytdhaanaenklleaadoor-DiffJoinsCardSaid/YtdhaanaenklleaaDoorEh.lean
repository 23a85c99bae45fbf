/- Walks: what the document tells. -/
import Derived.Test.YtdhaanaenklleaaDoorEg
import Derived.Great.BuildSlice
namespace Go.Proofs.YtdhaanaenklleaaDoor
set_option linter.unusedVariables false
set_option linter.unusedSimpArgs false
open Go.ChangeShapes Go.WideShapes Go.ChangeAt Go.RowKit

theorem rows_lit (w : World) (p : ByteArray) (l : List UInt8) (hp : p.size ≤ 140737488351232) (hl : l.length = 32) :
    Rows (w.alloc (.cells (Value.string p :: bytV l).toArray 113)) 33 inpR (.slice (some ⟨w.heap.size, 0, none⟩) 1 1) [(p, l, ())] := by
  refine .inr ⟨w.heap.size, 0, 1, rfl, Nat.one_pos, Nat.le_refl _, by decide, by simp, fun i x hx => ?_⟩
  have hi : i = 0 := by have := (List.getElem?_eq_some_iff.1 hx).1; simpa using this
  subst hi
  obtain rfl : (p, l, ()) = x := by simpa using hx
  refine ⟨.string p :: bytV l, ⟨[.string p], bytV l, rfl, ⟨rfl, hp⟩, bytV l, [], by simp, ⟨rfl, hl⟩, rfl⟩, by simp [bytV_len, hl], fun j hj => ?_⟩
  rw [block_cell (t := 113) (cur := (Value.string p :: bytV l).toArray) (by show (w.heap.push _)[w.heap.size]? = _; simp)]
  simp
theorem lit_a : D.merge cmpP [(⟨#[97]⟩, List.replicate 32 0, ())] [(⟨#[98]⟩, List.replicate 32 0, ())] = [(⟨#[97]⟩, 2), (⟨#[98]⟩, 1)] := by
  rw [me_lt (by decide +kernel), me_b, me_nil]
theorem chg_R (p : ByteArray) (k : Int) (hp : p.size ≤ 140737488351232) (hk : (Lit.int .i64 k).wf = true) : chgR (p, k, ()) (#[Value.string p, .int .i64 k]).toList :=
  ⟨[.string p], [.int .i64 k], rfl, ⟨rfl, hp⟩, [.int .i64 k], [], rfl, ⟨rfl, hk⟩, rfl⟩
set_option maxRecDepth 100000 in
set_option maxHeartbeats 2000000 in
theorem alive_any (w : World) (hM : MaxAt w) : Calls Tryd.prog 40 #[] w fun e w' => e = .returned (.bool true) ∧ Below w.heap.size w w' := by
  have HM := Lib.hid hM
  have HA := Lib.hid (rows_lit w ⟨#[97]⟩ (List.replicate 32 0) (by decide) (by decide))
  have hB0 := (rows_lit (w.alloc (.cells (Value.string ⟨#[97]⟩ :: bytV (List.replicate 32 0)).toArray 113)) ⟨#[98]⟩ (List.replicate 32 0) (by decide) (by decide))
  rw [show (w.alloc (.cells (Value.string ⟨#[97]⟩ :: bytV (List.replicate 32 0)).toArray 113)).heap.size = w.heap.size + 1 by simp] at hB0
  have HB := Lib.hid hB0
  clear hB0
  have HC := Lib.hid (lists_any _ _ _ _ _ (hM.below (((Below.refl _ w).alloc (Nat.le_refl _) _).alloc (by simp) _)) (HA.out.below ((Below.refl _ _).alloc (Nat.le_refl _) _)) HB.out (by simp; decide) (by simp; decide) (by simp))
  rw [lit_a] at HC
  have heqa := fun w1 => eq_chg (x := #[Value.string ⟨#[97]⟩, .int .i64 2]) (y := #[Value.string ⟨#[97]⟩, .int .i64 2]) (chg_R ⟨#[97]⟩ 2 (by decide) (by decide)) (chg_R ⟨#[97]⟩ 2 (by decide) (by decide)) w1
  have heqb := fun w1 => eq_chg (x := #[Value.string ⟨#[98]⟩, .int .i64 1]) (y := #[Value.string ⟨#[98]⟩, .int .i64 1]) (chg_R ⟨#[98]⟩ 1 (by decide) (by decide)) (chg_R ⟨#[98]⟩ 1 (by decide) (by decide)) w1
  rw [decide_eq_true rfl] at heqa heqb
  clear hM
  go_enter Tryd.func40, Tryd.ntmps40
  go_wp2_with fail
  refine HC.out.mono ?_
  rintro e w1 ⟨vo, rfl, ho, hB⟩
  have hR : Rows w1 2 chgR vo [(⟨#[97]⟩, 2, ()), (⟨#[98]⟩, 1, ())] := rows_of_own (L := [(⟨#[97]⟩, 2), (⟨#[98]⟩, 1)]) ho (by simp; decide) (by simp)
  obtain ⟨p, cap, hv, hp⟩ := hR.shape
  obtain rfl : vo = .slice p 2 cap := hv
  obtain ⟨g, o, rfl, hg, hcap, hmax, hcell⟩ := hp (by simp)
  obtain ⟨x, hx, hxl, hat0⟩ := hcell 0 (⟨#[97]⟩, 2, ()) rfl
  obtain ⟨y, hy, hyl, hat1⟩ := hcell 1 (⟨#[98]⟩, 1, ()) rfl
  obtain ⟨rfl, -, -⟩ := chg_cells hx
  obtain ⟨rfl, -, -⟩ := chg_cells hy
  have k0 : w1.cell? ⟨g, o, none⟩ = some (.string ⟨#[97]⟩) := by simpa using hat0 0 (by decide)
  have k1 : w1.cell? ⟨g, o + 1, none⟩ = some (.int .i64 2) := by simpa using hat0 1 (by decide)
  have k2 : w1.cell? ⟨g, o + 2, none⟩ = some (.string ⟨#[98]⟩) := by simpa using hat1 0 (by decide)
  have k3 : w1.cell? ⟨g, o + 3, none⟩ = some (.int .i64 1) := by simpa using hat1 1 (by decide)
  have HBl := Lib.hid (show Below w.heap.size w w1 from (((Below.refl _ w).alloc (Nat.le_refl _) _).alloc (by simp) _).trans (hB.mono (by simp; omega)))
  simp only [List.length_cons, List.length_nil] at hcap
  clear ho hB hR hp hcell hx hy hxl hyl hat0 hat1
  unfold maxLen at hmax
  go_wp2_with fail
  go_ret
  exact ⟨rfl, HBl.out⟩
end Go.Proofs.YtdhaanaenklleaaDoor
