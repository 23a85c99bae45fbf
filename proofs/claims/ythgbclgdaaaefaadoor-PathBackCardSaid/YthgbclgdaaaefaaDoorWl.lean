/- Walks: alive; the laws PathParts, PathOrders, PathGoes. -/
import Derived.Test.YthgbclgdaaaefaaDoorMd
namespace Go.Proofs.YthgbclgdaaaefaaDoor
set_option linter.unusedVariables false
open Go.ChangeShapes Go.WideShapes Go.ChangeAt Go.RowKit

theorem hm_below {m : Int} {w w' : World} (hm : w.cell? ⟨0, 0, none⟩ = some (.int .i64 m)) (hB : Below w.heap.size w w') : w'.cell? ⟨0, 0, none⟩ = some (.int .i64 m) := by
  have h0 : 0 < w.heap.size := by
    have := World.block_lt_of_cell? w _ hm
    simpa using this
  exact (hB.cell (p := ⟨0, 0, none⟩) h0).trans hm
def T1 (r : ByteArray) (b : Bool) (w : World) (e : Ending) (w' : World) : Prop := e = .returned (.tuple #[.string r, .bool b]) ∧ Below w.heap.size w w'
theorem alive_any (m : Int) (w : World) (hm : w.cell? ⟨0, 0, none⟩ = some (.int .i64 m)) : Calls Tryd.prog 9 #[] w fun e w' => e = .returned (.bool true) ∧ Below w.heap.size w w' := by
  have e1 : fromP ⟨#[97, 47, 98]⟩ ⟨#[46, 46, 47, 99, 47, 46, 47, 100]⟩ = (⟨#[97, 47, 99, 47, 100]⟩, true) := by decide +kernel
  have e2 : (fromP ⟨#[97]⟩ ⟨#[46, 46, 47, 46, 46]⟩) = (⟨#[]⟩, false) := by decide +kernel
  have e3 : goodB ⟨#[97, 47, 98]⟩ = true := by decide +kernel
  have e4 : goodB ⟨#[97, 47, 47, 98]⟩ = false := by decide +kernel
  have F1 : ∀ w1, Below w.heap.size w w1 → Calls Tryd.prog 25 #[.string ⟨#[97, 47, 98]⟩, .string ⟨#[46, 46, 47, 99, 47, 46, 47, 100]⟩] w1 (T1 ⟨#[97, 47, 99, 47, 100]⟩ true w1) := fun w1 hB => by
    have := from_any ⟨#[97, 47, 98]⟩ ⟨#[46, 46, 47, 99, 47, 46, 47, 100]⟩ m w1 (hm_below hm hB) (by decide) (by decide)
    unfold FromEnd at this; rw [e1] at this; exact this
  have F2 : ∀ w1, Below w.heap.size w w1 → Calls Tryd.prog 25 #[.string ⟨#[97]⟩, .string ⟨#[46, 46, 47, 46, 46]⟩] w1 (T1 ⟨#[]⟩ false w1) := fun w1 hB => by
    have := from_any ⟨#[97]⟩ ⟨#[46, 46, 47, 46, 46]⟩ m w1 (hm_below hm hB) (by decide) (by decide)
    unfold FromEnd at this; rw [e2] at this; exact this
  have F3 : ∀ w1, Below w.heap.size w w1 → Calls Tryd.prog 10 #[.string ⟨#[97, 47, 98]⟩] w1 fun e w' => e = .returned (.bool true) ∧ Below w1.heap.size w1 w' := fun w1 hB => e3 ▸ good_any ⟨#[97, 47, 98]⟩ m w1 (by decide) (hm_below hm hB)
  have F4 : ∀ w1, Below w.heap.size w w1 → Calls Tryd.prog 10 #[.string ⟨#[97, 47, 47, 98]⟩] w1 fun e w' => e = .returned (.bool false) ∧ Below w1.heap.size w1 w' := fun w1 hB => e4 ▸ good_any ⟨#[97, 47, 47, 98]⟩ m w1 (by decide) (hm_below hm hB)
  have H1 := Lib.hid F1
  have H2 := Lib.hid F2
  have H3 := Lib.hid F3
  have H4 := Lib.hid F4
  clear F1 F2 F3 F4 e1 e2 e3 e4
  go_enter Tryd.func9, Tryd.ntmps9
  go_wp2_with fail
  refine (H1.out _ (Below.refl _ _)).mono ?_
  rintro e w1 ⟨rfl, hB⟩
  go_wp2_with fail
  refine (H2.out _ hB).mono ?_
  rintro e w2 ⟨rfl, hB2⟩
  replace hB := hB.trans (hB2.mono hB.size)
  clear hB2
  go_wp2_with fail
  refine (H3.out _ hB).mono ?_
  rintro e w3 ⟨rfl, hB2⟩
  replace hB := hB.trans (hB2.mono hB.size)
  clear hB2
  go_wp2_with fail
  refine (H4.out _ hB).mono ?_
  rintro e w4 ⟨rfl, hB2⟩
  replace hB := hB.trans (hB2.mono hB.size)
  clear hB2
  go_wp2_with fail
  go_ret
  exact ⟨rfl, hB⟩

set_option maxHeartbeats 1000000 in
theorem parts_walk (s : ByteArray) (m : Int) (w : World) (hm : w.cell? ⟨0, 0, none⟩ = some (.int .i64 m)) :
    Calls Tryd.prog 3 #[.string s] w (LawEnd w) := by
  have H9 := Lib.hid (alive_any m w hm)
  by_cases hle : s.size ≤ 1024
  · have hleI : (s.size : Int) ≤ 1024 := by omega
    have H10 := Lib.hid (fun (w1 : World) (hB : Below w.heap.size w w1) => good_any s m w1 (by omega) (hm_below hm hB))
    have H11 := Lib.hid (fun (w1 : World) => refGood_any s w1 (by omega))
    have H13 := Lib.hid (fun (w1 : World) (hB : Below w.heap.size w w1) => psplit_any s m w1 (by omega) (hm_below hm hB))
    have H14 := Lib.hid (fun (w1 : World) => rsplit_any s w1 (by omega))
    have H15 := Lib.hid (fun (w1 : World) => dir_any s w1 (by omega))
    have H16 := Lib.hid (fun (w1 : World) => refDir_any s w1 (by omega))
    have H17 := Lib.hid (fun (w1 : World) => base_any s w1 (by omega))
    have H18 := Lib.hid (fun (w1 : World) => refBase_any s w1 (by omega))
    have hsl := splitL_len s
    generalize goodB s = g at *
    generalize splitL s = L at *
    generalize dirB s = d at *
    generalize baseB s = b at *
    have HS := Lib.hid (fun (v u : Value) (w1 : World) (hv : Strs w1 v L) (hu : Strs w1 u L) => same_any v u L L w1 hv hu (by omega) (by omega))
    rw [show decide (L = L) = true by simp] at HS
    clear hsl
    go_enter Tryd.func3, Tryd.ntmps3
    go_wp2_with fail
    refine H9.out.mono ?_
    rintro e w1 ⟨rfl, hB⟩
    go_wp2_with fail
    refine (H10.out _ hB).mono ?_
    rintro e w2 ⟨rfl, hB2⟩
    replace hB := hB.trans (hB2.mono hB.size)
    clear hB2
    go_wp2_with fail
    refine (H11.out _).mono ?_
    rintro e w3 ⟨rfl, hB2⟩
    replace hB := hB.trans (hB2.mono hB.size)
    clear hB2
    go_wp2_with fail
    refine (H13.out _ hB).mono ?_
    rintro e w4 ⟨v, rfl, hv, hB2⟩
    replace hB := hB.trans (hB2.mono hB.size)
    have hsv := Strs.ofRow hv
    clear hB2 hv
    go_wp2_with fail
    refine (H14.out _).mono ?_
    rintro e w5 ⟨u, rfl, hu, hB2⟩
    replace hB := hB.trans (hB2.mono hB.size)
    have hsu := Strs.ofRow hu
    have hsv2 := hsv.below hB2
    have Hsu := Lib.hid hsu
    have Hsv := Lib.hid hsv2
    clear hB2 hu hsv hsu hsv2
    go_wp2_with fail
    refine (HS.out v u _ Hsv.out Hsu.out).mono ?_
    rintro e w6 ⟨rfl, k, rfl⟩
    replace hB := below_drewN hB k
    go_wp2_with fail
    refine (H15.out _).mono ?_
    rintro e w6 ⟨rfl, rfl⟩
    go_wp2_with fail
    refine (H16.out _).mono ?_
    rintro e w6 ⟨rfl, rfl⟩
    go_wp2_with fail
    refine (H17.out _).mono ?_
    rintro e w6 ⟨rfl, rfl⟩
    go_wp2_with fail
    refine (H18.out _).mono ?_
    rintro e w6 ⟨rfl, hB2⟩
    replace hB := hB.trans (hB2.mono hB.size)
    clear hB2
    go_wp2_with fail
    go_ret
    exact ⟨rfl, hB⟩
  · have hleI : ¬ (s.size : Int) ≤ 1024 := by omega
    go_enter Tryd.func3, Tryd.ntmps3
    go_wp2_with fail
    refine H9.out.mono ?_
    rintro e w1 ⟨rfl, hB⟩
    go_wp2_with fail
    go_ret
    exact ⟨rfl, hB⟩
end Go.Proofs.YthgbclgdaaaefaaDoor
