/- Walks: the statement DiffLists; the walks of the stage's frames. -/
import Derived.Test.YtdhaanaenklleaaDoorEo
import Derived.Test.YtdhaanaenklleaaDoorDr
namespace Go.Proofs.YtdhaanaenklleaaDoor
set_option linter.unusedVariables false
set_option linter.unusedSimpArgs false
open Go.ChangeShapes Go.WideShapes Go.ChangeAt Go.RowKit

set_option maxRecDepth 100000 in
set_option maxHeartbeats 4000000 in
theorem difflists_any (v u : Value) (a b : List Inp) (w : World) (hM : MaxAt w) (hv : Rows w 33 inpR v a) (hu : Rows w 33 inpR u b) :
    Calls Tryd.prog 10 #[v, u] w (LawEnd w) := by
  have HA := Lib.hid (fun w1 (h1 : Below w.heap.size w w1) => alive_any w1 (hM.below h1))
  have HOa := Lib.hid (fun w1 (h1 : Below w.heap.size w w1) => odd_any v a w1 (hv.below h1))
  have HOb := Lib.hid (fun w1 (h1 : Below w.heap.size w w1) => odd_any u b w1 (hu.below h1))
  cases ea : oddB a with
  | true =>
    rw [ea] at HOa
    clear hM hv hu HOb
    go_enter Tryd.func10, Tryd.ntmps10
    go_wp2_with fail
    refine (HA.out _ (Below.refl _ _)).mono ?_
    rintro e w1 ⟨rfl, hB1⟩
    go_wp2_with fail
    refine (HOa.out _ hB1).mono ?_
    rintro e w2 ⟨rfl, hB2⟩
    replace hB1 := hB1.trans (hB2.mono hB1.size)
    clear hB2
    go_wp2_with fail
    go_ret
    exact ⟨rfl, hB1⟩
  | false =>
    cases eb : oddB b with
    | true =>
      rw [ea] at HOa
      rw [eb] at HOb
      clear hM hv hu
      go_enter Tryd.func10, Tryd.ntmps10
      go_wp2_with fail
      refine (HA.out _ (Below.refl _ _)).mono ?_
      rintro e w1 ⟨rfl, hB1⟩
      go_wp2_with fail
      refine (HOa.out _ hB1).mono ?_
      rintro e w2 ⟨rfl, hB2⟩
      replace hB1 := hB1.trans (hB2.mono hB1.size)
      clear hB2
      go_wp2_with fail
      refine (HOb.out _ hB1).mono ?_
      rintro e w2 ⟨rfl, hB2⟩
      replace hB1 := hB1.trans (hB2.mono hB1.size)
      clear hB2
      go_wp2_with fail
      go_ret
      exact ⟨rfl, hB1⟩
    | false =>
      obtain ⟨ra, za, la⟩ := odd_ris ea
      obtain ⟨rb, zb, lb⟩ := odd_ris eb
      rw [ea] at HOa
      rw [eb] at HOb
      have HL := Lib.hid (fun w1 (h1 : Below w.heap.size w w1) => lists_any v u a b w1 (hM.below h1) (hv.below h1) (hu.below h1) (fun x hx => by have := za x hx; omega) (fun x hx => by have := zb x hx; omega) (by omega))
      have HF := fun w1 (h1 : Below w.heap.size w w1) => of_any v u a b w1 (hv.below h1) (hu.below h1) za zb la lb
      rw [D.of_merge cmpP_cm ra rb] at HF
      have HF := Lib.hid HF
      have Hk := Lib.hid (fun x (hx : x ∈ D.merge cmpP a b) => merge_kind ra rb hx)
      have Hz := Lib.hid (fun x (hx : x ∈ D.merge cmpP a b) => (by have := merge_size za zb hx; omega : x.1.size ≤ 140737488351232))
      clear hM hv hu ra rb za zb la lb ea eb
      generalize D.merge cmpP a b = L at *
      go_enter Tryd.func10, Tryd.ntmps10
      go_wp2_with fail
      refine (HA.out _ (Below.refl _ _)).mono ?_
      rintro e w1 ⟨rfl, hB1⟩
      go_wp2_with fail
      refine (HOa.out _ hB1).mono ?_
      rintro e w2 ⟨rfl, hB2⟩
      replace hB1 := hB1.trans (hB2.mono hB1.size)
      clear hB2
      go_wp2_with fail
      refine (HOb.out _ hB1).mono ?_
      rintro e w2 ⟨rfl, hB2⟩
      replace hB1 := hB1.trans (hB2.mono hB1.size)
      clear hB2
      go_wp2_with fail
      refine (HL.out _ hB1).mono ?_
      rintro e w4 ⟨vl, rfl, hol, hB2⟩
      have hrl := rows_of_own hol Hz.out Hk.out
      replace hB1 := hB1.trans (hB2.mono hB1.size)
      clear hB2 hol
      go_wp2_with fail
      refine (HF.out _ hB1).mono ?_
      rintro e w5 ⟨vm, rfl, hom, hB2⟩
      have hrm := rows_of_own hom Hz.out Hk.out
      replace hrl := hrl.below hB2
      replace hB1 := hB1.trans (hB2.mono hB1.size)
      have HS := same9_any vl vm _ _ w5 hrl hrm
      rw [decide_eq_true rfl] at HS
      clear hB2 hom hrl hrm
      go_wp2_with fail
      refine HS.mono ?_
      rintro e w6 ⟨rfl, hB6⟩
      replace hB1 := hB1.trans (hB6.mono hB1.size)
      clear hB6 HS
      go_wp2_with fail
      go_ret
      exact ⟨rfl, hB1⟩
theorem difflists_walk {W : World} {a b : List Inp} {x y : Option Addr} {len cap len' cap' : Nat} (hM : MaxAt W) (ha : rowsR W 33 inpR a (Value.slice x len cap).cells.toList) (hb : rowsR W 33 inpR b (Value.slice y len' cap').cells.toList) :
    Calls Tryd.prog 10 #[.slice x len cap, .slice y len' cap'] W (LawEnd W) := difflists_any _ _ a b W hM (rows_of ha) (rows_of hb)
theorem joins_walk {W : World} {a b c : List Inp} {x y z : Option Addr} {len cap len' cap' ln2 cp2 : Nat} (hM : MaxAt W) (ha : rowsR W 33 inpR a (Value.slice x len cap).cells.toList) (hb : rowsR W 33 inpR b (Value.slice y len' cap').cells.toList) (hc : rowsR W 33 inpR c (Value.slice z ln2 cp2).cells.toList) :
    Calls Tryd.prog 12 #[.slice x len cap, .slice y len' cap', .slice z ln2 cp2] W (LawEnd W) := joins_any _ _ _ a b c W hM (rows_of ha) (rows_of hb) (rows_of hc)
end Go.Proofs.YtdhaanaenklleaaDoor
