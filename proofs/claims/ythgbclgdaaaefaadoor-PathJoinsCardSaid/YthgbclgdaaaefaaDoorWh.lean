/- Walks: Join of both. -/
import Derived.Test.YthgbclgdaaaefaaDoorWg
import Derived.Test.YthgbclgdaaaefaaDoorAp
import Derived.OwnWalk
namespace Go.Proofs.YthgbclgdaaaefaaDoor
set_option linter.unusedVariables false
open Go.ChangeShapes Go.WideShapes Go.ChangeAt Go.RowKit

theorem sjoin_any (v : Value) (ss : List ByteArray) (w : World) (hv : Strs w v ss) (hc : cnt ss ≤ 1073741824) :
    Calls Tryd.prog 34 #[v, .string ⟨#[47]⟩] w fun e w' => e = .returned (.string (joinB ss)) ∧ Below w.heap.size w w' := by
  have hl := cnt_len ss
  have hz := joinB_size ss
  rcases hv with ⟨⟨p, cap, rfl⟩, rfl⟩ | ⟨b, off, cap, rfl, hlc, hm, hb, hcell⟩
  · refine (Tryd.strings_Join_none p cap _ w).mono ?_
    rintro e w' ⟨rfl, rfl⟩
    exact ⟨rfl, Below.refl _ _⟩
  · refine (Tryd.strings_Join b off cap ss ⟨#[47]⟩ w ?_ hb (by omega) hlc ?_).mono ?_
    · intro j x hx
      have hj : j < ss.length := (List.getElem?_eq_some_iff.1 hx).1
      rw [hcell j hj]
      rw [List.getElem?_eq_getElem hj] at hx
      simp [List.getD, hj, Option.some.inj hx]
    · have : (joinB ss).size = (Lib.join (ss.map (·.data.toList)) [47]).length := mkB_size _
      show (Lib.join (ss.map (·.data.toList)) [47]).length ≤ _
      omega
    · rintro e w' ⟨rfl, hB⟩
      exact ⟨rfl, hB⟩

theorem filter_step (L : List ByteArray) (k : Nat) (h : k < L.length) : (L.take (k + 1)).filter some1 = (L.take k).filter some1 ++ (if some1 (L.getD k ByteArray.empty) then [L.getD k ByteArray.empty] else []) := by
  rw [List.take_succ_eq_append_getElem h, List.filter_append]
  congr 1
  have e : L.getD k ByteArray.empty = L[k] := by simp [List.getD, h]
  rw [e]
  by_cases hx : some1 L[k] = true
  · rw [if_pos hx]; simp [hx]
  · rw [if_neg hx]; simp [hx]

set_option maxHeartbeats 1000000 in
theorem pjoin_any (v : Value) (ss : List ByteArray) (w : World) (hv : Strs w v ss) (hc : cnt ss ≤ 1073741824) :
    Calls Tryd.prog 21 #[v] w fun e w' => e = .returned (.string (joinS ss)) ∧ Below w.heap.size w w' := by
  obtain ⟨i0, hi, hz0, hz1, hz2⟩ := info_parts Tryd.info9
  have hln := cnt_len ss
  have hcf := cnt_filter ss
  obtain ⟨p, cap, rfl, hp⟩ := strs_shape hv
  have Hp := Lib.hid hp
  obtain ⟨len, hlen⟩ : ∃ len, len = ss.length := ⟨_, rfl⟩
  rw [← hlen] at Hp hln ⊢
  have Hlen := Lib.hid hlen
  have Hcf := Lib.hid hcf
  clear hv hp hlen hcf
  go_enter Tryd.func21, Tryd.ntmps21
  go_wp2_with (at_make; refine wpList_make_own _ rfl _ _ 25 rfl w.heap.size 9 i0 (.string ⟨#[]⟩) 1 Tryd.underlying25 hi hz0 hz1 .i64 .i64 _ len rfl rfl (by omega) (by rw [hz2]; omega) (by unfold maxLen; omega) (Nat.le_refl _) ?_; intro w0 hown0 hgrow0)
  have hB0 := (Below.refl _ w).grown hgrow0 (Nat.le_refl _) (fun k h => by cases h)
  clear hgrow0
  go_loopg [3, 5, 11] len (fun g ov _ iv wr => ∃ k : Nat, k + g = len ∧ iv = .int .i64 k ∧ wr.ownsRow w.heap.size 9 1 ov ((ss.take k).filter some1).length (((ss.take k).filter some1).map Value.string) ∧ Below w.heap.size w wr)
  case atStart => exact ⟨0, by omega, rfl, hown0, hB0⟩
  case round =>
    obtain ⟨k, hkg, rfl, hown, hB⟩ := hrel
    have hBs := hB.size
    clear hown0 hB0
    by_cases hlt : k < len
    · obtain ⟨b, off, rfl, hb, hcap, hmax, hcell⟩ := Hp.out (by omega)
      have hc1 := (hB.cell (p := ⟨b, off + k, none⟩) hb).trans (hcell k hlt)
      have hst := filter_step ss k (by have := Hlen.out; omega)
      have hfl : ((ss.take k).filter some1).length ≤ k := by
        have h1 := List.length_filter_le some1 (ss.take k)
        rw [List.length_take] at h1; omega
      unfold maxLen at hmax
      obtain ⟨y, hy⟩ : ∃ y, y = ss.getD k ByteArray.empty := ⟨_, rfl⟩
      rw [← hy] at hc1 hst
      clear hy hcell
      generalize (ss.take k).filter some1 = ac at *
      cases hs1 : some1 y with
      | true =>
        obtain ⟨y1, y2⟩ := some_facts hs1
        rw [hs1, if_pos rfl] at hst
        have Hst := Lib.hid hst
        clear hs1 hst
        go_wp2_with (at_builtin; go_must (refine wpList_append_text rfl (.tmp 17) (.tmp 19) rfl w.heap.size _ ac rfl (hown.alloc _) ⟨wr.heap.size, 0, none⟩ 1 y rfl (one_new _ _ _) (by omega) (by simp; omega) ?_); intro v2 w2 hown2 hgrow2 hw2)
        have hB2 := (hB.alloc hBs (Obj.cells #[Value.string y] 9)).grown hgrow2 (by simp; omega) (fun q hq => (hown.lt q hq).1)
        go_roundg (gk - 1)
        case measure => omega
        case rel => exact ⟨k + 1, by omega, by go_num, by rw [Hst.out]; exact hown2, hB2⟩
      | false =>
        obtain ⟨y1, y2⟩ := none_facts hs1
        rw [hs1, if_neg (by decide), List.append_nil] at hst
        have Hst := Lib.hid hst
        clear hs1 hst
        go_wp2_with fail
        go_roundg (gk - 1)
        case measure => omega
        case rel => exact ⟨k + 1, by omega, by go_num, by rw [Hst.out]; exact hown, hB⟩
    · have hk : k = len := by omega
      subst hk
      have e : ss.take k = ss := List.take_of_length_le (by have := Hlen.out; omega)
      rw [e] at hown
      have hst := Strs.ofRow hown
      have HJ := Lib.hid (sjoin_any _ _ wr hst (by have := Hcf.out; omega))
      have Hj := Lib.hid (show joinS ss = joinB (ss.filter some1) from rfl)
      clear hown hst e
      go_wp2_with fail
      refine HJ.out.mono ?_
      rintro e w1 ⟨rfl, hB2⟩
      go_wp2_with fail
      go_ret
      exact ⟨by rw [Hj.out]; rfl, hB.trans (hB2.mono hBs)⟩

theorem cnt_take_lt (L : List ByteArray) (k : Nat) (h : k < L.length) : cnt (L.take k) + ((L.getD k ByteArray.empty).size + 1) ≤ cnt L := by
  have h1 := cnt_take L k h
  have h2 := cnt_take_le L (k + 1)
  omega
theorem joinS_size (L : List ByteArray) : (joinS L).size ≤ cnt L := Nat.le_trans (joinB_size _) (cnt_filter L)
set_option maxHeartbeats 1000000 in
theorem refJoin_any (v : Value) (ss : List ByteArray) (w : World) (hv : Strs w v ss) (hc : cnt ss ≤ 1073741824) :
    Calls Tryd.prog 22 #[v] w fun e w' => e = .returned (.string (joinS ss)) ∧ w = w' := by
  obtain ⟨p, cap, rfl, hp⟩ := strs_shape hv
  have Hp := Lib.hid hp
  obtain ⟨len, hlen⟩ : ∃ len, len = ss.length := ⟨_, rfl⟩
  rw [← hlen] at Hp ⊢
  have Hlen := Lib.hid hlen
  clear hv hp hlen
  go_enter Tryd.func22, Tryd.ntmps22
  go_wp2_with fail
  go_loopg [3, 5, 8] len (fun g sv _ iv wr => ∃ k : Nat, k + g = len ∧ iv = .int .i64 k ∧ sv = .string (joinS (ss.take k)) ∧ w = wr)
  case atStart => exact ⟨0, by omega, rfl, rfl, rfl⟩
  case round =>
    obtain ⟨k, hkg, rfl, rfl, rfl⟩ := hrel
    by_cases hlt : k < len
    · obtain ⟨b, off, rfl, hb, hcap, hmax, hcell⟩ := Hp.out (by omega)
      have hc1 := hcell k hlt
      have hkl : k < ss.length := by have := Hlen.out; omega
      have hge : ss.getD k ByteArray.empty = ss[k] := by simp [List.getD, hkl]
      have hts := List.take_succ_eq_append_getElem hkl
      rw [← hge] at hts
      have hsz := cnt_take_lt ss k hkl
      have hjs := joinS_size (ss.take k)
      unfold maxLen at hmax
      obtain ⟨y, hy⟩ : ∃ y, y = ss.getD k ByteArray.empty := ⟨_, rfl⟩
      rw [← hy] at hc1 hts hsz
      have hstep := joinS_step (ss.take k) y
      rw [← hts] at hstep
      have hb1 : (joinS (ss.take k)).size + y.size + 1 ≤ 1073741824 := by omega
      clear hy hge hcell hts hsz hjs
      generalize joinS (ss.take k) = x at *
      cases hs1 : some1 y with
      | true =>
        obtain ⟨y1, y2⟩ := some_facts hs1
        cases hs2 : some1 x with
        | true =>
          obtain ⟨x1, x2⟩ := some_facts hs2
          have Hst := Lib.hid (show joinS (ss.take (k + 1)) = x ++ ⟨#[47]⟩ ++ y by rw [hstep, hs1, hs2]; rfl)
          clear hs1 hs2 hstep
          go_wp2_with fail
          go_roundg (gk - 1)
          case measure => omega
          case rel => exact ⟨k + 1, by omega, by go_num, by rw [Hst.out], rfl⟩
        | false =>
          obtain ⟨x1, x2⟩ := none_facts hs2
          have hx := empty_of x hs2
          have Hst := Lib.hid (show joinS (ss.take (k + 1)) = x ++ y by rw [hstep, hs1, hs2, hx]; apply ba_ext; rw [ba_append]; rfl)
          clear hs1 hs2 hstep hx
          go_wp2_with fail
          go_roundg (gk - 1)
          case measure => omega
          case rel => exact ⟨k + 1, by omega, by go_num, by rw [Hst.out], rfl⟩
      | false =>
        obtain ⟨y1, y2⟩ := none_facts hs1
        have hye := empty_of y hs1
        have Hst := Lib.hid (show joinS (ss.take (k + 1)) = x ++ y by rw [hstep, hs1, hye]; apply ba_ext; rw [ba_append]; show x.data.toList = x.data.toList ++ []; rw [List.append_nil])
        clear hs1 hstep hye
        go_wp2_with fail
        go_roundg (gk - 1)
        case measure => omega
        case rel => exact ⟨k + 1, by omega, by go_num, by rw [Hst.out], rfl⟩
    · have hk : k = len := by omega
      subst hk
      have e : ss.take k = ss := List.take_of_length_le (by have := Hlen.out; omega)
      rw [e]
      clear e
      go_wp2_with fail
      go_ret
      exact ⟨rfl, rfl⟩
end Go.Proofs.YthgbclgdaaaefaaDoor
