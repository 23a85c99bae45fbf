/- Walks: whether a commit can be; what the document tells of stage 7; the statement ObjectTrees; Walks: the statement ObjectTrees; Walks: the statement ObjectLess. -/
import Derived.Test.YtdhaanaenklleaaDoorN3
namespace Go.Proofs.YtdhaanaenklleaaDoor
set_option linter.unusedVariables false
set_option linter.unusedSimpArgs false
open Go.ChangeShapes Go.WideShapes Go.ChangeAt Go.RowKit

/-- A commit's cells. -/
def cmL (root : List UInt8) (pv : Value) (note : ByteArray) : List Value := bytV root ++ [pv, .string note]
def cmV (root : List UInt8) (pv : Value) (note : ByteArray) : Value := .agg (cmL root pv note).toArray
theorem cm_pv {root : List UInt8} {pv : Value} {note : ByteArray} (h : root.length = 32) : (cmL root pv note)[32]? = some pv := by
  unfold cmL; rw [List.getElem?_append_right (by rw [bytV_len, h]; exact Nat.le_refl _), bytV_len, h]; rfl
theorem cm_note {root : List UInt8} {pv : Value} {note : ByteArray} (h : root.length = 32) : (cmL root pv note)[33]? = some (.string note) := by
  unfold cmL; rw [List.getElem?_append_right (by rw [bytV_len, h]; omega), bytV_len, h]; rfl
theorem alloc_at (w : World) (row : List Value) (t : TypeId) (j : Nat) : (w.alloc (.cells row.toArray t)).cell? ⟨w.heap.size, j, none⟩ = row[j]? := by
  rw [block_cell (t := t) (cur := row.toArray) (by show (w.heap.push _)[w.heap.size]? = _; simp)]
  simp
set_option maxHeartbeats 1000000 in
theorem goodCommit_any (root : List UInt8) (note : ByteArray) (pp : Option Addr) (pn pc : Nat) (w : World) (h : root.length = 32) :
    Calls Tryd.prog 25 #[cmV root (.slice pp pn pc) note] w fun e w' => e = .returned (.bool (decide (note.size ≤ 64) && decide (pn ≤ 2))) ∧ Below w.heap.size w w' := by
  have h1 := (alloc_at w (cmL root (.slice pp pn pc) note) 40 33).trans (cm_note h)
  have h2 := (alloc_at w (cmL root (.slice pp pn pc) note) 40 32).trans (cm_pv h)
  unfold cmV
  generalize (cmL root (.slice pp pn pc) note).toArray = R at *
  by_cases c1 : note.size ≤ 64
  · have c1I : (note.size : Int) ≤ 64 := by omega
    have d1 := Lib.hid (decide_eq_true c1)
    by_cases c2 : pn ≤ 2
    · have c2I : (pn : Int) ≤ 2 := by omega
      have d2 := Lib.hid (decide_eq_true c2)
      go_enter Tryd.func25, Tryd.ntmps25
      go_wp2_with fail
      go_ret
      exact ⟨by first | rfl | (rw [d1.out, d2.out]; rfl), (Below.refl _ _).alloc (Nat.le_refl _) _⟩
    · have c2I : ¬ (pn : Int) ≤ 2 := by omega
      have d2 := Lib.hid (decide_eq_false c2)
      go_enter Tryd.func25, Tryd.ntmps25
      go_wp2_with fail
      go_ret
      exact ⟨by first | rfl | (rw [d1.out, d2.out]; rfl), (Below.refl _ _).alloc (Nat.le_refl _) _⟩
  · have c1I : ¬ (note.size : Int) ≤ 64 := by omega
    have d1 := Lib.hid (decide_eq_false c1)
    go_enter Tryd.func25, Tryd.ntmps25
    go_wp2_with fail
    go_ret
    exact ⟨by first | rfl | (rw [d1.out]; rfl), (Below.refl _ _).alloc (Nat.le_refl _) _⟩
set_option maxHeartbeats 1000000 in
theorem refGoodCommit_any (root : List UInt8) (note : ByteArray) (pp : Option Addr) (pn pc : Nat) (w : World) (h : root.length = 32) :
    Calls Tryd.prog 24 #[cmV root (.slice pp pn pc) note] w fun e w' => e = .returned (.bool (decide (note.size ≤ 64) && decide (pn ≤ 2))) ∧ Below w.heap.size w w' := by
  have h1 := (alloc_at w (cmL root (.slice pp pn pc) note) 40 33).trans (cm_note h)
  have h2 := (alloc_at w (cmL root (.slice pp pn pc) note) 40 32).trans (cm_pv h)
  unfold cmV
  generalize (cmL root (.slice pp pn pc) note).toArray = R at *
  by_cases c1 : note.size ≤ 64
  · have c1I : (note.size : Int) ≤ 64 := by omega
    have d1 := Lib.hid (decide_eq_true c1)
    by_cases c2 : pn ≤ 2
    · have c2I : (pn : Int) ≤ 2 := by omega
      have d2 := Lib.hid (decide_eq_true c2)
      go_enter Tryd.func24, Tryd.ntmps24
      go_wp2_with fail
      go_ret
      exact ⟨by first | rfl | (rw [d1.out, d2.out]; rfl), (Below.refl _ _).alloc (Nat.le_refl _) _⟩
    · have c2I : ¬ (pn : Int) ≤ 2 := by omega
      have d2 := Lib.hid (decide_eq_false c2)
      go_enter Tryd.func24, Tryd.ntmps24
      go_wp2_with fail
      go_ret
      exact ⟨by first | rfl | (rw [d1.out, d2.out]; rfl), (Below.refl _ _).alloc (Nat.le_refl _) _⟩
  · have c1I : ¬ (note.size : Int) ≤ 64 := by omega
    have d1 := Lib.hid (decide_eq_false c1)
    go_enter Tryd.func24, Tryd.ntmps24
    go_wp2_with fail
    go_ret
    exact ⟨by first | rfl | (rw [d1.out]; rfl), (Below.refl _ _).alloc (Nat.le_refl _) _⟩
set_option maxHeartbeats 1000000 in
theorem greatCommit_any (root : List UInt8) (note : ByteArray) (pp : Option Addr) (pn pc : Nat) (w : World) (h : root.length = 32) :
    Calls Tryd.prog 22 #[cmV root (.slice pp pn pc) note] w fun e w' => e = .returned (.bool (decide (60 < pn) || decide (1024 < note.size))) ∧ Below w.heap.size w w' := by
  have h1 := (alloc_at w (cmL root (.slice pp pn pc) note) 40 33).trans (cm_note h)
  have h2 := (alloc_at w (cmL root (.slice pp pn pc) note) 40 32).trans (cm_pv h)
  unfold cmV
  generalize (cmL root (.slice pp pn pc) note).toArray = R at *
  by_cases c1 : 60 < pn
  · have c1I : (60 : Int) < (pn : Int) := by omega
    have d1 := Lib.hid (decide_eq_true c1)
    go_enter Tryd.func22, Tryd.ntmps22
    go_wp2_with fail
    go_ret
    exact ⟨by first | rfl | (rw [d1.out]; rfl), (Below.refl _ _).alloc (Nat.le_refl _) _⟩
  · have c1I : ¬ (60 : Int) < (pn : Int) := by omega
    have d1 := Lib.hid (decide_eq_false c1)
    by_cases c2 : 1024 < note.size
    · have c2I : (1024 : Int) < (note.size : Int) := by omega
      have d2 := Lib.hid (decide_eq_true c2)
      go_enter Tryd.func22, Tryd.ntmps22
      go_wp2_with fail
      go_ret
      exact ⟨by first | rfl | (rw [d1.out, d2.out]; rfl), (Below.refl _ _).alloc (Nat.le_refl _) _⟩
    · have c2I : ¬ (1024 : Int) < (note.size : Int) := by omega
      have d2 := Lib.hid (decide_eq_false c2)
      go_enter Tryd.func22, Tryd.ntmps22
      go_wp2_with fail
      go_ret
      exact ⟨by first | rfl | (rw [d1.out, d2.out]; rfl), (Below.refl _ _).alloc (Nat.le_refl _) _⟩
theorem tree_nil : treeB [] = ⟨#[0, 0, 0, 0, 0, 0, 0, 0]⟩ := by decide +kernel
theorem get_x : getT ⟨#[120]⟩ = none := by
  have : S.splitB ⟨#[120]⟩ = none := by decide +kernel
  unfold getT; rw [this]
set_option maxRecDepth 100000 in
set_option maxHeartbeats 2000000 in
theorem alive7_any (w : World) (hM : MaxAt w) : Calls Tryd.prog 13 #[] w fun e w' => e = .returned (.bool true) ∧ Below w.heap.size w w' := by
  have HP := Lib.hid (fun w1 (h1 : Below w.heap.size w w1) => putTree_any (.slice none 0 0) [] w1 (hM.below h1) (.inl ⟨⟨_, _, rfl⟩, rfl⟩) (by simp) (by simp))
  have hput : putR [] = .tuple #[.string ⟨#[0, 0, 0, 0, 0, 0, 0, 0]⟩, .int .i64 0] := by
    unfold putR
    rw [show goodT [] = true from rfl, if_pos rfl, if_pos rfl, tree_nil]
  rw [hput] at HP
  have HG := Lib.hid (fun w1 (h1 : Below w.heap.size w w1) => getTree_any ⟨#[120]⟩ w1 (hM.below h1) (by decide))
  rw [get_x] at HG
  have HC := Lib.hid (fun w1 => goodCommit_any zeroId ⟨#[]⟩ none 0 0 w1 (by decide))
  clear hM hput
  go_enter Tryd.func13, Tryd.ntmps13
  go_wp2_with fail
  refine (HP.out _ (Below.refl _ _)).mono ?_
  rintro e w1 ⟨rfl, hB1⟩
  go_wp2_with fail
  refine (HG.out _ hB1).mono ?_
  rintro e w2 ⟨hB2, rfl⟩
  replace hB1 := hB1.trans (hB2.mono hB1.size)
  clear hB2
  go_wp2_with fail
  refine (HC.out w2).mono ?_
  rintro e w3 ⟨rfl, hB3⟩
  replace hB1 := hB1.trans (hB3.mono hB1.size)
  clear hB3
  go_wp2_with fail
  go_ret
  exact ⟨rfl, hB1⟩
end Go.Proofs.YtdhaanaenklleaaDoor
namespace Go.Proofs.YtdhaanaenklleaaDoor
set_option linter.unusedVariables false
set_option linter.unusedSimpArgs false
open Go.ChangeShapes Go.WideShapes Go.ChangeAt Go.RowKit

set_option maxRecDepth 100000 in
set_option maxHeartbeats 8000000 in
theorem trees_any (v : Value) (a : List Ent) (b : ByteArray) (w : World) (hM : MaxAt w) (hv : Rows w 34 entR v a) (hb : b.size ≤ 140737488351232) :
    Calls Tryd.prog 3 #[v, .string b] w (LawEnd w) := by
  have HA := Lib.hid (fun w1 (h1 : Below w.heap.size w w1) => alive7_any w1 (hM.below h1))
  have HO := Lib.hid (fun w1 (h1 : Below w.heap.size w w1) => greatTree_any v a w1 (hv.below h1))
  cases hg : greatE a with
  | true =>
    rw [hg] at HO
    clear hM hv hg
    go_enter Tryd.func3, Tryd.ntmps3
    go_wp2_with fail
    refine (HA.out _ (Below.refl _ _)).mono ?_
    rintro e w1 ⟨rfl, hB1⟩
    go_wp2_with fail
    refine (HO.out _ hB1).mono ?_
    rintro e w2 ⟨rfl, hB2⟩
    replace hB1 := hB1.trans (hB2.mono hB1.size)
    clear hB2
    go_wp2_with fail
    go_ret
    exact ⟨rfl, hB1⟩
  | false =>
    obtain ⟨hz, hn, hsum⟩ := greatE_no hg
    rw [hg] at HO
    clear hg
    by_cases hbs : 4096 < b.size
    · have hbI : (4096 : Int) < (b.size : Int) := by omega
      clear hM hv
      go_enter Tryd.func3, Tryd.ntmps3
      go_wp2_with fail
      refine (HA.out _ (Below.refl _ _)).mono ?_
      rintro e w1 ⟨rfl, hB1⟩
      go_wp2_with fail
      refine (HO.out _ hB1).mono ?_
      rintro e w2 ⟨rfl, hB2⟩
      replace hB1 := hB1.trans (hB2.mono hB1.size)
      clear hB2
      go_wp2_with fail
      go_ret
      exact ⟨rfl, hB1⟩
    · have hbI : ¬ (4096 : Int) < (b.size : Int) := by omega
      have HP := Lib.hid (fun w1 (h1 : Below w.heap.size w w1) => putTree_any v a w1 (hM.below h1) (hv.below h1) (fun x hx => by have := hz x hx; omega) (by omega))
      have HR := Lib.hid (fun w1 (h1 : Below w.heap.size w w1) => refGoodTree_any v a w1 (hv.below h1) (fun x hx => by have := hz x hx; omega) (by omega))
      have HK := Lib.hid (fun w1 (h1 : Below w.heap.size w w1) => goodTree_any v a w1 (hM.below h1) (hv.below h1) (fun x hx => by have := hz x hx; omega) (by omega))
      have HT := Lib.hid (fun w1 (h1 : Below w.heap.size w w1) => refTree_any v a w1 (hv.below h1) (fun x hx => by have := hz x hx; omega) (by omega))
      have HGt := Lib.hid (fun w1 (h1 : Below w.heap.size w w1) => getTree_any b w1 (hM.below h1) (by omega))
      have HGr := Lib.hid (fun w1 (h1 : Below w.heap.size w w1) => refGetTree_any b w1 (by omega))
      have hpr : putR a = .tuple #[.string (if goodT a = true then treeB a else ⟨#[]⟩), .int .i64 (if goodT a = true then 0 else 1)] := rfl
      rw [hpr] at HP
      have e1 : refR b = getT b := rfl
      rw [e1] at HGr
      clear hM hv hz hn hsum hpr e1
      cases hg : goodT a with
      | true =>
        rw [hg] at HP HR HK
        rw [if_pos rfl, if_pos rfl] at HP
        have hTT : ((treeB a).toList == (treeB a).toList) = true := by simp
        generalize treeB a = T at *
        clear hg
        cases hgt : getT b with
        | some x0 =>
          rw [hgt] at HGt HGr
          clear hgt
          go_enter Tryd.func3, Tryd.ntmps3
          go_wp2_with fail
          refine (HA.out _ (Below.refl _ _)).mono ?_
          rintro e w1 ⟨rfl, hB1⟩
          go_wp2_with fail
          refine (HO.out _ hB1).mono ?_
          rintro e w2 ⟨rfl, hB2⟩
          replace hB1 := hB1.trans (hB2.mono hB1.size)
          clear hB2
          go_wp2_with fail
          refine (HP.out _ hB1).mono ?_
          rintro e w2 ⟨rfl, hB2⟩
          replace hB1 := hB1.trans (hB2.mono hB1.size)
          clear hB2
          go_wp2_with fail
          refine (HR.out _ hB1).mono ?_
          rintro e w2 ⟨rfl, hB2⟩
          replace hB1 := hB1.trans (hB2.mono hB1.size)
          clear hB2
          go_wp2_with fail
          refine (HK.out _ hB1).mono ?_
          rintro e w2 ⟨rfl, hB2⟩
          replace hB1 := hB1.trans (hB2.mono hB1.size)
          clear hB2
          go_wp2_with fail
          refine (HT.out _ hB1).mono ?_
          rintro e w2 ⟨rfl, hB2⟩
          replace hB1 := hB1.trans (hB2.mono hB1.size)
          clear hB2
          go_wp2_with fail
          refine (HGt.out _ hB1).mono ?_
          rintro e w3 ⟨hB2, x, rfl, hx⟩
          replace hB1 := hB1.trans (hB2.mono hB1.size)
          clear hB2
          go_wp2_with fail
          refine (HGr.out _ hB1).mono ?_
          rintro e w4 ⟨hB2, y, rfl, hy⟩
          have Hx := Lib.hid (hx.below hB2)
          have Hy := Lib.hid hy
          replace hB1 := hB1.trans (hB2.mono hB1.size)
          clear hB2 hx hy
          have HS := Lib.hid (sameTree_any x y _ _ w4 Hx.out Hy.out)
          rw [decide_eq_true rfl] at HS
          go_wp2_with fail
          refine HS.out.mono ?_
          rintro e w5 ⟨rfl, hB2⟩
          replace hB1 := hB1.trans (hB2.mono hB1.size)
          clear hB2
          go_wp2_with fail
          go_ret
          exact ⟨rfl, hB1⟩
        | none =>
          rw [hgt] at HGt HGr
          clear hgt
          go_enter Tryd.func3, Tryd.ntmps3
          go_wp2_with fail
          refine (HA.out _ (Below.refl _ _)).mono ?_
          rintro e w1 ⟨rfl, hB1⟩
          go_wp2_with fail
          refine (HO.out _ hB1).mono ?_
          rintro e w2 ⟨rfl, hB2⟩
          replace hB1 := hB1.trans (hB2.mono hB1.size)
          clear hB2
          go_wp2_with fail
          refine (HP.out _ hB1).mono ?_
          rintro e w2 ⟨rfl, hB2⟩
          replace hB1 := hB1.trans (hB2.mono hB1.size)
          clear hB2
          go_wp2_with fail
          refine (HR.out _ hB1).mono ?_
          rintro e w2 ⟨rfl, hB2⟩
          replace hB1 := hB1.trans (hB2.mono hB1.size)
          clear hB2
          go_wp2_with fail
          refine (HK.out _ hB1).mono ?_
          rintro e w2 ⟨rfl, hB2⟩
          replace hB1 := hB1.trans (hB2.mono hB1.size)
          clear hB2
          go_wp2_with fail
          refine (HT.out _ hB1).mono ?_
          rintro e w2 ⟨rfl, hB2⟩
          replace hB1 := hB1.trans (hB2.mono hB1.size)
          clear hB2
          go_wp2_with fail
          refine (HGt.out _ hB1).mono ?_
          rintro e w3 ⟨hB2, rfl⟩
          replace hB1 := hB1.trans (hB2.mono hB1.size)
          clear hB2
          go_wp2_with fail
          refine (HGr.out _ hB1).mono ?_
          rintro e w4 ⟨hB2, rfl⟩
          replace hB1 := hB1.trans (hB2.mono hB1.size)
          clear hB2
          have HS := Lib.hid (sameTree_any (.slice none 0 0) (.slice none 0 0) [] [] w4 (.inl ⟨⟨_, _, rfl⟩, rfl⟩) (.inl ⟨⟨_, _, rfl⟩, rfl⟩))
          rw [decide_eq_true rfl] at HS
          go_wp2_with fail
          refine HS.out.mono ?_
          rintro e w5 ⟨rfl, hB2⟩
          replace hB1 := hB1.trans (hB2.mono hB1.size)
          clear hB2
          go_wp2_with fail
          go_ret
          exact ⟨rfl, hB1⟩
      | false =>
        rw [hg] at HP HR HK
        rw [if_neg (by decide), if_neg (by decide)] at HP
        clear hg HT
        cases hgt : getT b with
        | some x0 =>
          rw [hgt] at HGt HGr
          clear hgt
          go_enter Tryd.func3, Tryd.ntmps3
          go_wp2_with fail
          refine (HA.out _ (Below.refl _ _)).mono ?_
          rintro e w1 ⟨rfl, hB1⟩
          go_wp2_with fail
          refine (HO.out _ hB1).mono ?_
          rintro e w2 ⟨rfl, hB2⟩
          replace hB1 := hB1.trans (hB2.mono hB1.size)
          clear hB2
          go_wp2_with fail
          refine (HP.out _ hB1).mono ?_
          rintro e w2 ⟨rfl, hB2⟩
          replace hB1 := hB1.trans (hB2.mono hB1.size)
          clear hB2
          go_wp2_with fail
          refine (HR.out _ hB1).mono ?_
          rintro e w2 ⟨rfl, hB2⟩
          replace hB1 := hB1.trans (hB2.mono hB1.size)
          clear hB2
          go_wp2_with fail
          refine (HK.out _ hB1).mono ?_
          rintro e w2 ⟨rfl, hB2⟩
          replace hB1 := hB1.trans (hB2.mono hB1.size)
          clear hB2
          go_wp2_with fail
          refine (HGt.out _ hB1).mono ?_
          rintro e w3 ⟨hB2, x, rfl, hx⟩
          replace hB1 := hB1.trans (hB2.mono hB1.size)
          clear hB2
          go_wp2_with fail
          refine (HGr.out _ hB1).mono ?_
          rintro e w4 ⟨hB2, y, rfl, hy⟩
          have Hx := Lib.hid (hx.below hB2)
          have Hy := Lib.hid hy
          replace hB1 := hB1.trans (hB2.mono hB1.size)
          clear hB2 hx hy
          have HS := Lib.hid (sameTree_any x y _ _ w4 Hx.out Hy.out)
          rw [decide_eq_true rfl] at HS
          go_wp2_with fail
          refine HS.out.mono ?_
          rintro e w5 ⟨rfl, hB2⟩
          replace hB1 := hB1.trans (hB2.mono hB1.size)
          clear hB2
          go_wp2_with fail
          go_ret
          exact ⟨rfl, hB1⟩
        | none =>
          rw [hgt] at HGt HGr
          clear hgt
          go_enter Tryd.func3, Tryd.ntmps3
          go_wp2_with fail
          refine (HA.out _ (Below.refl _ _)).mono ?_
          rintro e w1 ⟨rfl, hB1⟩
          go_wp2_with fail
          refine (HO.out _ hB1).mono ?_
          rintro e w2 ⟨rfl, hB2⟩
          replace hB1 := hB1.trans (hB2.mono hB1.size)
          clear hB2
          go_wp2_with fail
          refine (HP.out _ hB1).mono ?_
          rintro e w2 ⟨rfl, hB2⟩
          replace hB1 := hB1.trans (hB2.mono hB1.size)
          clear hB2
          go_wp2_with fail
          refine (HR.out _ hB1).mono ?_
          rintro e w2 ⟨rfl, hB2⟩
          replace hB1 := hB1.trans (hB2.mono hB1.size)
          clear hB2
          go_wp2_with fail
          refine (HK.out _ hB1).mono ?_
          rintro e w2 ⟨rfl, hB2⟩
          replace hB1 := hB1.trans (hB2.mono hB1.size)
          clear hB2
          go_wp2_with fail
          refine (HGt.out _ hB1).mono ?_
          rintro e w3 ⟨hB2, rfl⟩
          replace hB1 := hB1.trans (hB2.mono hB1.size)
          clear hB2
          go_wp2_with fail
          refine (HGr.out _ hB1).mono ?_
          rintro e w4 ⟨hB2, rfl⟩
          replace hB1 := hB1.trans (hB2.mono hB1.size)
          clear hB2
          have HS := Lib.hid (sameTree_any (.slice none 0 0) (.slice none 0 0) [] [] w4 (.inl ⟨⟨_, _, rfl⟩, rfl⟩) (.inl ⟨⟨_, _, rfl⟩, rfl⟩))
          rw [decide_eq_true rfl] at HS
          go_wp2_with fail
          refine HS.out.mono ?_
          rintro e w5 ⟨rfl, hB2⟩
          replace hB1 := hB1.trans (hB2.mono hB1.size)
          clear hB2
          go_wp2_with fail
          go_ret
          exact ⟨rfl, hB1⟩
end Go.Proofs.YtdhaanaenklleaaDoor
namespace Go.Proofs.YtdhaanaenklleaaDoor
set_option linter.unusedVariables false
set_option linter.unusedSimpArgs false
open Go.ChangeShapes Go.WideShapes Go.ChangeAt Go.RowKit

def NewG (N0 : Nat) : Value → World → Prop := fun v w => ∃ B, v = .slice (some ⟨B, 0, none⟩) 0 0 ∧ N0 ≤ B ∧ w.heap[B]? = some (.cells #[] 80 (0, 0))
theorem NewG.st1 (N0 : Nat) : K2.St1 (NewG N0) := fun v w1 w2 ⟨B, h1, h2, h3⟩ hB => ⟨B, h1, h2, by rw [hB.block B (lt_of_block h3), h3]⟩
theorem okAt_iff (l : List Ent) : (List.range l.length).all (okAt l) = true ↔ (∀ k, ∀ h : k < l.length, nameB l[k].1 = true) ∧ ∀ k, ∀ h : k + 1 < l.length, bl (l[k]'(by omega)).1 l[k + 1].1 = true := by
  rw [List.all_eq_true]
  constructor
  · intro h
    have h' : ∀ k, k < l.length → okAt l k = true := fun k hk => h k (List.mem_range.2 hk)
    refine ⟨fun k hk => ?_, fun k hk => ?_⟩
    · have := h' k hk
      cases k with
      | zero => rwa [okAt_zero hk] at this
      | succ k => rw [okAt_succ hk, Bool.and_eq_true] at this; exact this.1
    · have := h' (k + 1) hk
      rw [okAt_succ hk, Bool.and_eq_true] at this; exact this.2
  · rintro ⟨h1, h2⟩ k hk
    have hk := List.mem_range.1 hk
    cases k with
    | zero => rw [okAt_zero hk]; exact h1 0 hk
    | succ k => rw [okAt_succ hk, h1 (k + 1) hk, h2 k hk]; rfl
theorem rise_pair : ∀ (l : List Ent), (∀ k, ∀ h : k + 1 < l.length, bl (l[k]'(by omega)).1 l[k + 1].1 = true) → l.Pairwise fun x y => bl x.1 y.1 = true
  | [], _ => List.Pairwise.nil
  | [x], _ => List.pairwise_singleton _ _
  | x :: y :: r, h => by
    have ih := rise_pair (y :: r) (fun k hk => by have := h (k + 1) (by simpa using hk); simpa using this)
    have h0 : bl x.1 y.1 = true := h 0 (by simp)
    refine List.pairwise_cons.2 ⟨fun z hz => ?_, ih⟩
    rcases List.mem_cons.1 hz with rfl | hz
    · exact h0
    · exact bl_so.tra _ _ _ h0 ((List.pairwise_cons.1 ih).1 z hz)
theorem goodT_iff (l : List Ent) : goodT l = true ↔ l.length ≤ 512 ∧ (∀ x ∈ l, nameB x.1 = true) ∧ l.Pairwise fun x y => bl x.1 y.1 = true := by
  unfold goodT
  rw [Bool.and_eq_true, decide_eq_true_iff, okAt_iff]
  constructor
  · rintro ⟨h0, h1, h2⟩
    refine ⟨h0, fun x hx => ?_, rise_pair l h2⟩
    obtain ⟨k, hk, rfl⟩ := List.getElem_of_mem hx
    exact h1 k hk
  · rintro ⟨h0, h1, h2⟩
    exact ⟨h0, fun k hk => h1 _ (List.getElem_mem hk), fun k hk => List.pairwise_iff_getElem.1 h2 k (k + 1) (by omega) hk (by omega)⟩
def less (a : List Ent) (i : Nat) : List Ent := a.take i ++ a.drop (i + 1)
theorem less_sub (a : List Ent) (i : Nat) : (less a i).Sublist a := by
  have h := List.take_append_drop i a
  conv => rhs; rw [← h]
  exact List.Sublist.append (List.Sublist.refl _) (by
    rw [← List.drop_drop]
    exact List.drop_sublist 1 _)
theorem less_good {a : List Ent} (i : Nat) (h : goodT a = true) : goodT (less a i) = true := by
  obtain ⟨h0, h1, h2⟩ := (goodT_iff a).1 h
  have hs := less_sub a i
  exact (goodT_iff _).2 ⟨Nat.le_trans hs.length_le h0, fun x hx => h1 x (hs.mem hx), h2.sublist hs⟩
theorem less_size {a : List Ent} {i : Nat} (hi : i < a.length) : (treeB (less a i)).size < (treeB a).size := by
  unfold treeB
  rw [sjoin_size, sjoin_size]
  have e : a = a.take i ++ a[i] :: a.drop (i + 1) := by rw [← List.drop_eq_getElem_cons hi, List.take_append_drop]
  have e1 : partsE a = partsE (a.take i) ++ (partE a[i] ++ partsE (a.drop (i + 1))) := by
    conv => lhs; rw [e]
    rw [partsE_app]; rfl
  have e2 : partsE (less a i) = partsE (a.take i) ++ partsE (a.drop (i + 1)) := partsE_app _ _
  rw [e1, e2, S.total_append, S.total_append, S.total_append]
  simp only [List.length_append]
  have : (partE a[i]).length = 3 := rfl
  omega
theorem putR_good {a : List Ent} (h : goodT a = true) : putR a = .tuple #[.string (treeB a), .int .i64 0] := by unfold putR; rw [if_pos h, if_pos h]
set_option maxRecDepth 100000 in
set_option maxHeartbeats 8000000 in
theorem less_any (v : Value) (a : List Ent) (iz : Int) (w : World) (hM : MaxAt w) (hv : Rows w 34 entR v a) (hiw : (Lit.int .i64 iz).wf = true) :
    Calls Tryd.prog 7 #[v, .int .i64 iz] w (LawEnd w) := by
  have HA := Lib.hid (fun w1 (h1 : Below w.heap.size w w1) => alive7_any w1 (hM.below h1))
  have HO := Lib.hid (fun w1 (h1 : Below w.heap.size w w1) => greatTree_any v a w1 (hv.below h1))
  obtain ⟨ln, hln⟩ : ∃ ln, ln = a.length := ⟨_, rfl⟩
  obtain ⟨vp, vc, rfl, -⟩ := hv.elem hln
  cases hg : greatE a with
  | true =>
    rw [hg] at HO
    clear hM hv hg hln
    go_enter Tryd.func7, Tryd.ntmps7
    go_wp2_with fail
    refine (HA.out _ (Below.refl _ _)).mono ?_
    rintro e w1 ⟨rfl, hB1⟩
    go_wp2_with fail
    refine (HO.out _ hB1).mono ?_
    rintro e w2 ⟨rfl, hB2⟩
    replace hB1 := hB1.trans (hB2.mono hB1.size)
    clear hB2
    go_wp2_with fail
    go_ret
    exact ⟨rfl, hB1⟩
  | false =>
    obtain ⟨hz, hn, hsum⟩ := greatE_no hg
    rw [hg] at HO
    clear hg
    by_cases h0 : iz < 0
    · clear hM hv hln
      go_enter Tryd.func7, Tryd.ntmps7
      go_wp2_with fail
      refine (HA.out _ (Below.refl _ _)).mono ?_
      rintro e w1 ⟨rfl, hB1⟩
      go_wp2_with fail
      refine (HO.out _ hB1).mono ?_
      rintro e w2 ⟨rfl, hB2⟩
      replace hB1 := hB1.trans (hB2.mono hB1.size)
      clear hB2
      go_wp2_with fail
      go_ret
      exact ⟨rfl, hB1⟩
    · by_cases h1 : (ln : Int) ≤ iz
      · clear hM hv hln
        go_enter Tryd.func7, Tryd.ntmps7
        go_wp2_with fail
        refine (HA.out _ (Below.refl _ _)).mono ?_
        rintro e w1 ⟨rfl, hB1⟩
        go_wp2_with fail
        refine (HO.out _ hB1).mono ?_
        rintro e w2 ⟨rfl, hB2⟩
        replace hB1 := hB1.trans (hB2.mono hB1.size)
        clear hB2
        go_wp2_with fail
        go_ret
        exact ⟨rfl, hB1⟩
      · obtain ⟨i, rfl⟩ : ∃ i : Nat, iz = (i : Int) := ⟨iz.toNat, by omega⟩
        have HR := Lib.hid (fun w1 (h1 : Below w.heap.size w w1) => refGoodTree_any (.slice vp ln vc) a w1 (hv.below h1) (fun x hx => by have := hz x hx; omega) (by omega))
        cases hgd : goodT a with
        | false =>
          rw [hgd] at HR
          clear hM hv hln hgd
          go_enter Tryd.func7, Tryd.ntmps7
          go_wp2_with fail
          refine (HA.out _ (Below.refl _ _)).mono ?_
          rintro e w1 ⟨rfl, hB1⟩
          go_wp2_with fail
          refine (HO.out _ hB1).mono ?_
          rintro e w2 ⟨rfl, hB2⟩
          replace hB1 := hB1.trans (hB2.mono hB1.size)
          clear hB2
          go_wp2_with fail
          refine (HR.out _ hB1).mono ?_
          rintro e w2 ⟨rfl, hB2⟩
          replace hB1 := hB1.trans (hB2.mono hB1.size)
          clear hB2
          go_wp2_with fail
          go_ret
          exact ⟨rfl, hB1⟩
        | true =>
          rw [hgd] at HR
          have hia : i < a.length := by omega
          have HP := Lib.hid (fun w1 (h1 : Below w.heap.size w w1) => putTree_any (.slice vp ln vc) a w1 (hM.below h1) (hv.below h1) (fun x hx => by have := hz x hx; omega) (by omega))
          rw [putR_good hgd] at HP
          have hlat : LAt 34 entV w (.slice vp ln vc) a := LAt.ofRows (R := entR) (by decide) (fun x cs h => (ent_cells h).1) hv
          have hlen2 : ∀ x ∈ less a i, (entV x).length = 34 := fun x hx => hlat.1 x ((less_sub a i).mem hx)
          have hrow : ∀ x ∈ less a i, entR x (entV x) := fun x hx => entR_of (by have := hz x ((less_sub a i).mem hx); omega) (by have := hlen2 x hx; simp [entV, bytV_len] at this; exact this)
          have hll : (less a i).length ≤ 60 := Nat.le_trans (less_sub a i).length_le hn
          have HP2 := Lib.hid (fun u w1 (hm1 : MaxAt w1) (h : LAt 34 entV w1 u (less a i)) => putTree_any u (less a i) w1 hm1 (h.rows hrow) (fun x hx => by have := hz x ((less_sub a i).mem hx); omega) (by omega))
          rw [putR_good (less_good i hgd)] at HP2
          have hlt2 := less_size hia
          have hne : ((treeB a).toList == (treeB (less a i)).toList) = false := beq_of_ne (fun e => by rw [e] at hlt2; exact Nat.lt_irrefl _ hlt2)
          have hltI : ((treeB (less a i)).size : Int) < ((treeB a).size : Int) := by omega
          have Hlen2 := Lib.hid hlen2
          have HM := Lib.hid hM
          have Hlat := Lib.hid hlat
          have Hgd := Lib.hid hgd
          clear hM hv hlat hrow hlen2 hgd hlt2
          have Hln := Lib.hid hln
          have hil : i < ln := by omega
          have hnl : a.length ≤ 60 := hn
          clear hln
          generalize treeB a = T1 at *
          generalize treeB (less a i) = T2 at *
          go_enter Tryd.func7, Tryd.ntmps7
          go_wp2_with fail
          refine (HA.out _ (Below.refl _ _)).mono ?_
          rintro e w1 ⟨rfl, hB1⟩
          go_wp2_with fail
          refine (HO.out _ hB1).mono ?_
          rintro e w2 ⟨rfl, hB2⟩
          replace hB1 := hB1.trans (hB2.mono hB1.size)
          clear hB2
          go_wp2_with fail
          refine (HR.out _ hB1).mono ?_
          rintro e w2 ⟨rfl, hB2⟩
          replace hB1 := hB1.trans (hB2.mono hB1.size)
          clear hB2
          go_wp2_with fail
          refine (HP.out _ hB1).mono ?_
          rintro e w5 ⟨rfl, hB2⟩
          have HB5 := Lib.hid (hB1.trans (hB2.mono hB1.size))
          clear hB1 hB2
          go_wp2_with fail
          have hd5 : Below w5.heap.size w5 w5.drew := (Below.refl _ _).drew
          obtain ⟨vt, hvt, hct⟩ := gen_take eltE (Hlat.out.below HB5.out) i (by omega)
          obtain ⟨vd, hvd, hcd⟩ := gen_drop eltE (Hlat.out.below HB5.out) (i + 1) (by omega)
          have Hvt := Lib.hid hvt
          have ei : ((i + 1 : Nat) : Int) = (i : Int) + 1 := by omega
          rw [ei] at hvd
          have Hvd := Lib.hid hvd
          clear ei
          have HMd := Lib.hid ((HM.out.below HB5.out).below hd5)
          replace hct := hct.below hd5
          replace hcd := hcd.below hd5
          have hwr : IntKind.i64.wrap ((i : Int) + 1) = (i : Int) + 1 := wrap_in (by omega) (by omega)
          clear hvt hvd
          have hRL : ∃ Rs : List (Value → World → Prop), Rs = [NewG w5.heap.size,
              K2.PureV (.slice vp ln vc),
              K2.PureV (.int .i64 i),
              K2.PureV (vt),
              RowG 80 34 entV w5.heap.size (a.take i),
              K2.PureV (.slice vp ln vc),
              K2.PureV (.int .i64 i),
              K2.PureV (.int .i64 ((i : Int) + 1)),
              K2.PureV (vd),
              RowG 80 34 entV w5.heap.size (a.take i ++ a.drop (i + 1)),
              K2.PureV (.tuple #[.string T2, .int .i64 0]),
              K2.PureV (.tuple #[.string T2, .int .i64 0]),
              K2.PureV (.string T2),
              K2.PureV (.int .i64 0),
              K2.PureV (.string T2),
              K2.PureV (.int .i64 0)] := ⟨_, rfl⟩
          obtain ⟨Rs, hRs⟩ := hRL
          refine K2.wp_region_rel2 w5.heap.size (Nat.le_refl _) (K2.RL Rs) [1, 2, 2, 2, 1, 2, 2, 2, 2, 1, 2, 2, 2, 2, 2, 2] [1, 1, 1, 1, 1, 1, 1, 1, 1, 2, 1, 1, 1, 1, 1, 1] [[], [], [], [], [], [], [], [], [], [0, 4], [], [], [], [], [], []] (by kernel_rfl) (by kernel_rfl) (K2.RL.st1 (by rw [hRs]; exact K2.st1_cons (NewG.st1 _) (K2.st1_cons (K2.PureV.st1 _) (K2.st1_cons (K2.PureV.st1 _) (K2.st1_cons (K2.PureV.st1 _) (K2.st1_cons (RowG.st1 _ _) (K2.st1_cons (K2.PureV.st1 _) (K2.st1_cons (K2.PureV.st1 _) (K2.st1_cons (K2.PureV.st1 _) (K2.st1_cons (K2.PureV.st1 _) (K2.st1_cons (RowG.st1 _ _) (K2.st1_cons (K2.PureV.st1 _) (K2.st1_cons (K2.PureV.st1 _) (K2.st1_cons (K2.PureV.st1 _) (K2.st1_cons (K2.PureV.st1 _) (K2.st1_cons (K2.PureV.st1 _) (K2.st1_cons (K2.PureV.st1 _) (K2.st1_nil)))))))))))))))))) (K2.RL.st2 (by rw [hRs]; exact K2.st2_skip (K2.st2_cons (K2.PureV.st2 _ _ _) (K2.st2_cons (K2.PureV.st2 _ _ _) (K2.st2_cons (K2.PureV.st2 _ _ _) (K2.st2_skip (K2.st2_cons (K2.PureV.st2 _ _ _) (K2.st2_cons (K2.PureV.st2 _ _ _) (K2.st2_cons (K2.PureV.st2 _ _ _) (K2.st2_cons (K2.PureV.st2 _ _ _) (K2.st2_skip (K2.st2_cons (K2.PureV.st2 _ _ _) (K2.st2_cons (K2.PureV.st2 _ _ _) (K2.st2_cons (K2.PureV.st2 _ _ _) (K2.st2_cons (K2.PureV.st2 _ _ _) (K2.st2_cons (K2.PureV.st2 _ _ _) (K2.st2_cons (K2.PureV.st2 _ _ _) (K2.st2_nil)))))))))))))))))) ?_ ?_ ?_
          · intro i o d hi hd
            have hmem := List.mem_of_getElem? hi
            simp only [List.mem_cons, List.not_mem_nil, or_false] at hmem
            rcases hmem with rfl | rfl | rfl | rfl | rfl | rfl | rfl | rfl | rfl | rfl | rfl | rfl | rfl | rfl | rfl | rfl <;> simp at hd <;> (subst hd; simp)
          · refine K2.rel_start (Φ := K2.Hop _ _ _ _ _ _ _) ?_
            refine K2.rel_cons (Φ := K2.Hop _ _ _ _ _ _ _) (k := 0) ?_ ?_
            · intro fa fw hfB hfN hfE hfk hft
              rw [hRs]
              refine K2.hop_plain rfl ?_
              have kc : ∀ v, fa.eval (.const v) = v := fun _ => rfl
              generalize fa.eval = ρ at *
              exact K2.out_run (v := .slice (some ⟨fw.heap.size, 0, none⟩) 0 0) (w' := fw.alloc (.cells #[] 80)) (by simp [execOp, kc, go_sem]) ⟨⟨_, rfl, hfN, heap_alloc_new _ _⟩, (Below.refl _ _).alloc (Nat.le_refl _) _⟩
            refine K2.rel_cons (Φ := K2.Hop _ _ _ _ _ _ _) (k := 1) ?_ ?_
            · intro fa fw hfB hfN hfE hfk hft
              have k0 : fa.eval (.tmp 0) = .slice vp ln vc := hft 0 (K2.mem_looks (by kernel_rfl)) (K2.noneed (by kernel_rfl))
              rw [hRs]
              refine K2.hop_plain rfl ?_
              refine K2.out_move rfl ?_
              exact ⟨k0, Below.refl _ _⟩
            refine K2.rel_cons (Φ := K2.Hop _ _ _ _ _ _ _) (k := 2) ?_ ?_
            · intro fa fw hfB hfN hfE hfk hft
              have k1 : fa.eval (.tmp 1) = .int .i64 i := hft 1 (K2.mem_looks (by kernel_rfl)) (K2.noneed (by kernel_rfl))
              rw [hRs]
              refine K2.hop_plain rfl ?_
              refine K2.out_move rfl ?_
              exact ⟨k1, Below.refl _ _⟩
            refine K2.rel_cons (Φ := K2.Hop _ _ _ _ _ _ _) (k := 3) ?_ ?_
            · intro fa fw hfB hfN hfE hfk hft
              have k35 : fa.eval (.tmp 35) = (.slice vp ln vc) := by have := hfk 1 (K2.mem_needs (by kernel_rfl)) _ rfl; rw [hRs] at this; exact this
              have k36 : fa.eval (.tmp 36) = (.int .i64 i) := by have := hfk 2 (K2.mem_needs (by kernel_rfl)) _ rfl; rw [hRs] at this; exact this
              rw [hRs]
              refine K2.hop_plain rfl ?_
              have hr := Hvt.out fw
              exact K2.out_run (v := vt) (w' := fw) (by generalize fa.eval = ρ at *; simp [execOp, k35, k36, hr, go_sem]) ⟨rfl, Below.refl _ _⟩
            refine K2.rel_cons (Φ := K2.Hop _ _ _ _ _ _ _) (k := 4) ?_ ?_
            · intro fa fw hfB hfN hfE hfk hft
              have k34 : (NewG w5.heap.size) (fa.eval (.tmp 34)) fw := by have := hfk 0 (K2.mem_needs (by kernel_rfl)) _ rfl; rw [hRs] at this; exact this
              have k37 : fa.eval (.tmp 37) = (vt) := by have := hfk 3 (K2.mem_needs (by kernel_rfl)) _ rfl; rw [hRs] at this; exact this
              rw [hRs]
              refine K2.hop_plain rfl ?_
              obtain ⟨B0, hb1, hb2, hb3⟩ := k34
              obtain ⟨v', w', hr, ho, hB'⟩ := run_append_first_gen eltE fw w5.heap.size B0 _ (a.take i) hb3 hb2 (hct.below hfB) (by rw [List.length_take]; omega) hfN
              exact out_append_k (.tmp 34) (.tmp 37) 22 rfl hb1 k37 hr ⟨(show RowG 80 34 entV w5.heap.size (a.take i) v' w' from ⟨ho⟩), hB'⟩
            refine K2.rel_cons (Φ := K2.Hop _ _ _ _ _ _ _) (k := 5) ?_ ?_
            · intro fa fw hfB hfN hfE hfk hft
              have k0 : fa.eval (.tmp 0) = .slice vp ln vc := hft 0 (K2.mem_looks (by kernel_rfl)) (K2.noneed (by kernel_rfl))
              rw [hRs]
              refine K2.hop_plain rfl ?_
              refine K2.out_move rfl ?_
              exact ⟨k0, Below.refl _ _⟩
            refine K2.rel_cons (Φ := K2.Hop _ _ _ _ _ _ _) (k := 6) ?_ ?_
            · intro fa fw hfB hfN hfE hfk hft
              have k1 : fa.eval (.tmp 1) = .int .i64 i := hft 1 (K2.mem_looks (by kernel_rfl)) (K2.noneed (by kernel_rfl))
              rw [hRs]
              refine K2.hop_plain rfl ?_
              refine K2.out_move rfl ?_
              exact ⟨k1, Below.refl _ _⟩
            refine K2.rel_cons (Φ := K2.Hop _ _ _ _ _ _ _) (k := 7) ?_ ?_
            · intro fa fw hfB hfN hfE hfk hft
              have k40 : fa.eval (.tmp 40) = (.int .i64 i) := by have := hfk 6 (K2.mem_needs (by kernel_rfl)) _ rfl; rw [hRs] at this; exact this
              rw [hRs]
              refine K2.hop_plain rfl ?_
              have kc : ∀ v, fa.eval (.const v) = v := fun _ => rfl
              generalize fa.eval = ρ at *
              exact K2.out_run (v := .int .i64 ((i : Int) + 1)) (w' := fw) (by simp [execOp, kc, k40, go_sem, hwr]) ⟨rfl, Below.refl _ _⟩
            refine K2.rel_cons (Φ := K2.Hop _ _ _ _ _ _ _) (k := 8) ?_ ?_
            · intro fa fw hfB hfN hfE hfk hft
              have k39 : fa.eval (.tmp 39) = (.slice vp ln vc) := by have := hfk 5 (K2.mem_needs (by kernel_rfl)) _ rfl; rw [hRs] at this; exact this
              have k41 : fa.eval (.tmp 41) = (.int .i64 ((i : Int) + 1)) := by have := hfk 7 (K2.mem_needs (by kernel_rfl)) _ rfl; rw [hRs] at this; exact this
              rw [hRs]
              refine K2.hop_plain rfl ?_
              have hr := Hvd.out fw
              exact K2.out_run (v := vd) (w' := fw) (by generalize fa.eval = ρ at *; simp [execOp, k39, k41, hr, go_sem]) ⟨rfl, Below.refl _ _⟩
            refine K2.rel_cons (Φ := K2.Hop _ _ _ _ _ _ _) (k := 9) ?_ ?_
            · intro fa fw hfB hfN hfE hfk hft
              have k38 : (RowG 80 34 entV w5.heap.size (a.take i)) (fa.eval (.tmp 38)) fw := by have := hfk 4 (K2.mem_needs (by kernel_rfl)) _ rfl; rw [hRs] at this; exact this
              have k42 : fa.eval (.tmp 42) = (vd) := by have := hfk 8 (K2.mem_needs (by kernel_rfl)) _ rfl; rw [hRs] at this; exact this
              rw [hRs]
              refine K2.hop_plain rfl ?_
              obtain ⟨ho0⟩ := k38
              obtain ⟨v', w', hr, ho, hg⟩ := run_append_gen eltE fw w5.heap.size _ _ _ _ (a.drop (i + 1)) ho0 (hcd.below hfB) (by rw [List.length_take, List.length_drop]; omega) (by unfold maxLen; rw [List.length_take, List.length_drop]; omega) hfN
              refine out_append_k (.tmp 38) (.tmp 42) 22 rfl rfl k42 hr ⟨(show RowG 80 34 entV w5.heap.size (a.take i ++ a.drop (i + 1)) v' w' from ⟨by rw [List.length_append, LF_app]; exact ho⟩), ?_⟩
              exact (Below.refl _ _).grown hg hfN (fun k hk => (ho0.lt k hk).1)
            refine K2.rel_cons (Φ := K2.Hop _ _ _ _ _ _ _) (k := 10) ?_ ?_
            · intro fa fw hfB hfN hfE hfk hft
              have k43 : (RowG 80 34 entV w5.heap.size (a.take i ++ a.drop (i + 1))) (fa.eval (.tmp 43)) fw := by have := hfk 9 (K2.mem_needs (by kernel_rfl)) _ rfl; rw [hRs] at this; exact this
              rw [hRs]
              refine K2.hop_plain rfl ?_
              obtain ⟨ho0⟩ := k43
              have kf : fa.eval (.func 15) = .func (.func 15) #[] #[] := rfl
              refine K2.out_call (f := 15) (args := #[fa.eval (.tmp 43)]) (by generalize fa.eval = ρ at *; simp [execOp, kf, go_sem]) ?_
              refine (HP2.out _ fw (HMd.out.below hfB) (LAt.own Hlen2.out ho0)).mono ?_
              rintro e w' ⟨rfl, hB'⟩
              exact ⟨_, rfl, rfl, hB'⟩
            refine K2.rel_cons (Φ := K2.Hop _ _ _ _ _ _ _) (k := 11) ?_ ?_
            · intro fa fw hfB hfN hfE hfk hft
              have k44 : fa.eval (.tmp 44) = (.tuple #[.string T2, .int .i64 0]) := by have := hfk 10 (K2.mem_needs (by kernel_rfl)) _ rfl; rw [hRs] at this; exact this
              rw [hRs]
              refine K2.hop_plain rfl ?_
              refine K2.out_move rfl ?_
              exact ⟨k44, Below.refl _ _⟩
            refine K2.rel_cons (Φ := K2.Hop _ _ _ _ _ _ _) (k := 12) ?_ ?_
            · intro fa fw hfB hfN hfE hfk hft
              have k33 : fa.eval (.tmp 33) = (.tuple #[.string T2, .int .i64 0]) := by have := hfk 11 (K2.mem_needs (by kernel_rfl)) _ rfl; rw [hRs] at this; exact this
              rw [hRs]
              refine K2.hop_plain rfl ?_
              generalize fa.eval = ρ at *
              exact K2.out_run (v := .string T2) (w' := fw) (by simp [execOp, k33, go_sem]) ⟨rfl, Below.refl _ _⟩
            refine K2.rel_cons (Φ := K2.Hop _ _ _ _ _ _ _) (k := 13) ?_ ?_
            · intro fa fw hfB hfN hfE hfk hft
              have k33 : fa.eval (.tmp 33) = (.tuple #[.string T2, .int .i64 0]) := by have := hfk 11 (K2.mem_needs (by kernel_rfl)) _ rfl; rw [hRs] at this; exact this
              rw [hRs]
              refine K2.hop_plain rfl ?_
              generalize fa.eval = ρ at *
              exact K2.out_run (v := .int .i64 0) (w' := fw) (by simp [execOp, k33, go_sem]) ⟨rfl, Below.refl _ _⟩
            refine K2.rel_cons (Φ := K2.Hop _ _ _ _ _ _ _) (k := 14) ?_ ?_
            · intro fa fw hfB hfN hfE hfk hft
              have k45 : fa.eval (.tmp 45) = (.string T2) := by have := hfk 12 (K2.mem_needs (by kernel_rfl)) _ rfl; rw [hRs] at this; exact this
              rw [hRs]
              refine K2.hop_plain rfl ?_
              refine K2.out_assign rfl ?_
              exact ⟨k45, Below.refl _ _⟩
            refine K2.rel_cons (Φ := K2.Hop _ _ _ _ _ _ _) (k := 15) ?_ ?_
            · intro fa fw hfB hfN hfE hfk hft
              have k46 : fa.eval (.tmp 46) = (.int .i64 0) := by have := hfk 13 (K2.mem_needs (by kernel_rfl)) _ rfl; rw [hRs] at this; exact this
              rw [hRs]
              refine K2.hop_plain rfl ?_
              refine K2.out_assign rfl ?_
              exact ⟨k46, Below.refl _ _⟩
            exact K2.rel_nil
          · intro fa fw hfB hfy hff hfs hfd
            rw [hRs] at hfy
            have k7 : fa.eval (.tmp 7) = (.string T2) := hfy 14 _ rfl (K2.unkilled (by decide))
            have k8 : fa.eval (.tmp 8) = (.int .i64 0) := hfy 15 _ rfl (K2.unkilled (by decide))
            have HBf := Lib.hid (HB5.out.trans (((Below.refl _ _).drew.trans hfB).mono HB5.out.size))
            have e := K2.rel_frame [34, 35, 36, 37, 38, 39, 40, 41, 42, 43, 44, 33, 45, 46, 7, 8] (by kernel_rfl) hff hfs hfd
            simp only [List.foldl] at e
            rw [show fa.tmps.getD 7 undef = .string T2 from k7] at e
            rw [show fa.tmps.getD 8 undef = .int .i64 0 from k8] at e
            clear hfy hff hfs hfd k7 k8
            generalize fa.tmps.getD 34 undef = x34 at e
            generalize fa.tmps.getD 35 undef = x35 at e
            generalize fa.tmps.getD 36 undef = x36 at e
            generalize fa.tmps.getD 37 undef = x37 at e
            generalize fa.tmps.getD 38 undef = x38 at e
            generalize fa.tmps.getD 39 undef = x39 at e
            generalize fa.tmps.getD 40 undef = x40 at e
            generalize fa.tmps.getD 41 undef = x41 at e
            generalize fa.tmps.getD 42 undef = x42 at e
            generalize fa.tmps.getD 43 undef = x43 at e
            generalize fa.tmps.getD 44 undef = x44 at e
            generalize fa.tmps.getD 33 undef = x33 at e
            generalize fa.tmps.getD 45 undef = x45 at e
            generalize fa.tmps.getD 46 undef = x46 at e
            simp [List.setIfInBounds_toArray, List.set_cons_succ, List.set_cons_zero] at e
            subst e
            go_wp2_with fail
            go_ret
            exact ⟨rfl, HBf.out⟩
theorem less_walk {W : World} {a : List Ent} {x : Option Addr} {len cap : Nat} (hM : MaxAt W) (ha : rowsR W 34 entR a (Value.slice x len cap).cells.toList) (iz : Int) (hi : (Lit.int .i64 iz).wf = true) :
    Calls Tryd.prog 7 #[.slice x len cap, .int .i64 iz] W (LawEnd W) := less_any _ a iz W hM (by
  obtain ⟨v, e, h⟩ := ha
  have : [Value.slice x len cap] = [v] := e
  obtain rfl : Value.slice x len cap = v := by simpa using this
  exact h) hi
theorem trees_walk {W : World} {a : List Ent} {x : Option Addr} {len cap : Nat} (hM : MaxAt W) (ha : rowsR W 34 entR a (Value.slice x len cap).cells.toList) (b : ByteArray) (hb : b.size ≤ 140737488351232) :
    Calls Tryd.prog 3 #[.slice x len cap, .string b] W (LawEnd W) := trees_any _ a b W hM (by
  obtain ⟨v, e, h⟩ := ha
  have : [Value.slice x len cap] = [v] := e
  obtain rfl : Value.slice x len cap = v := by simpa using this
  exact h) hb
end Go.Proofs.YtdhaanaenklleaaDoor
