/- Walks: the program's From. -/
import Derived.Test.YthgbclgdaaaefaaDoorWi
namespace Go.Proofs.YthgbclgdaaaefaaDoor
set_option linter.unusedVariables false
open Go.ChangeShapes Go.WideShapes Go.ChangeAt Go.RowKit

def stepL (cur : List ByteArray) (x : ByteArray) : Option (List ByteArray) :=
  if !(some1 x) || (x.toList == ([46] : List UInt8)) then some cur
  else if x.toList == ([46, 46] : List UInt8) then (if cur.isEmpty then none else some cur.dropLast)
  else if badB x then none else some (cur ++ [x])
def walkL : List ByteArray → List ByteArray → Option (List ByteArray)
  | cur, [] => some cur
  | cur, x :: r => match stepL cur x with | none => none | some c => walkL c r
theorem walk_drop (cur ws : List ByteArray) (k : Nat) (h : k < ws.length) : walkL cur (ws.drop k) = match stepL cur (ws.getD k ByteArray.empty) with | none => none | some c => walkL c (ws.drop (k + 1)) := by
  rw [drop_getD ws k h]; rfl
def fromP (d y : ByteArray) : ByteArray × Bool :=
  match walkL (splitL d) (cutB 47 y) with
  | none => (⟨#[]⟩, false)
  | some l => if some1 (joinB l) && !(goodB (joinB l)) then (⟨#[]⟩, false) else (joinB l, true)

theorem own_shape {w : World} {base : Nat} {v : Value} {n : Nat} {xs : List Value} (h : w.ownsRow base 9 1 v n xs) : ∃ p cap, v = .slice p n cap ∧ n ≤ cap ∧ cap ≤ 9223372036854775807 ∧ (0 < n → ∃ g, p = some ⟨g, 0, none⟩) := by
  rcases h.2 with ⟨rfl, rfl⟩ | ⟨g, cap, cur, rfl, _, _, hc, hm, _⟩
  · exact ⟨none, 0, rfl, by omega, by omega, fun h => by omega⟩
  · unfold maxLen at hm
    exact ⟨_, cap, rfl, hc, by omega, fun _ => ⟨g, rfl⟩⟩
theorem own_pop {w : World} {base : Nat} {g n cap : Nat} {xs : List ByteArray} (h : w.ownsRow base 9 1 (.slice (some ⟨g, 0, none⟩) n cap) n (xs.map Value.string)) : w.ownsRow base 9 1 (.slice (some ⟨g, 0, none⟩) (n - 1) cap) (n - 1) (xs.dropLast.map Value.string) := by
  rcases h.2 with ⟨hv, _⟩ | ⟨g', cap', cur, hv, hb, hg, hc, hm, hs, ht⟩
  · cases hv
  · cases hv
    refine ⟨?_, .inr ⟨g, cap, cur, rfl, hb, hg, by omega, hm, hs, ?_⟩⟩
    · have := h.1
      simp at this ⊢; omega
    · rw [Nat.mul_one] at ht ⊢
      have h1 := h.1
      have hl : xs.length = n := by simpa using h1
      rw [List.map_dropLast, ← ht, List.dropLast_eq_take, List.take_take, List.length_take]
      congr 1
      have : cur.toList.length = cap := by simpa using hs
      omega
theorem cnt_dropLast (l : List ByteArray) : cnt l.dropLast ≤ cnt l := by
  rw [List.dropLast_eq_take]; exact cnt_take_le l _
theorem splitL_cnt (a : ByteArray) : cnt (splitL a) ≤ a.size + 1 := by
  unfold splitL
  split
  · rw [cutB_cnt]; omega
  · simp [cnt]
def FromEnd (d y : ByteArray) (w : World) (e : Ending) (w' : World) : Prop := e = .returned (.tuple #[.string (fromP d y).1, .bool (fromP d y).2]) ∧ Below w.heap.size w w'
theorem fromEnd_of {d y : ByteArray} {r : ByteArray} {b : Bool} (h : fromP d y = (r, b)) {w w' : World} (hB : Below w.heap.size w w') : FromEnd d y w (.returned (.tuple #[.string r, .bool b])) w' := by
  unfold FromEnd; rw [h]; exact ⟨rfl, hB⟩

set_option maxHeartbeats 2000000 in
theorem from_any (d y : ByteArray) (m : Int) (w : World) (hm : w.cell? ⟨0, 0, none⟩ = some (.int .i64 m)) (hd : d.size ≤ 1048576) (hy : y.size ≤ 1048576) :
    Calls Tryd.prog 25 #[.string d, .string y] w (FromEnd d y w) := by
  have h0 : 0 < w.heap.size := by
    have := World.block_lt_of_cell? w _ hm
    simpa using this
  have HM := Lib.hid (fun (w1 : World) (hB : Below w.heap.size w w1) => (hB.cell (p := ⟨0, 0, none⟩) h0).trans hm)
  have H1 := Lib.hid (psplit_any d m w (by omega) hm)
  have H2 := Lib.hid (fun (w1 : World) (hB : Below w.heap.size w w1) => split_own y m w1 (by omega) (HM.out w1 hB))
  have hsc := splitL_cnt d
  have hyc := cutB_cnt 47 y
  have hyn := cutB_ne 47 y
  have He := Lib.hid (show fromP d y = (match walkL (splitL d) (cutB 47 y) with
    | none => (⟨#[]⟩, false)
    | some l => if some1 (joinB l) && !(goodB (joinB l)) then (⟨#[]⟩, false) else (joinB l, true)) from rfl)
  generalize splitL d = at0 at *
  generalize cutB 47 y = ws at *
  go_enter Tryd.func25, Tryd.ntmps25
  go_wp2_with fail
  refine H1.out.mono ?_
  rintro e w1 ⟨av, rfl, hav, hB1⟩
  go_wp2_with fail
  refine (H2.out _ hB1).mono ?_
  rintro e w2 ⟨v2, rfl, hv2, hB12⟩
  have hav2 := ownsRow_below hav hB12
  have hlow := fun (q : Nat) hq => (hav.lt q hq).2
  have hB2 := hB1.trans (hB12.mono hB1.size)
  obtain ⟨g2, cap2, rfl, hg2, hg2s, hcap2, hmax2, hcell2⟩ := row_cells hv2 hyn
  have hwl := cnt_len ws
  obtain ⟨len, hlen⟩ : ∃ len, len = ws.length := ⟨_, rfl⟩
  rw [← hlen] at hcap2 hcell2 hwl ⊢
  have Hlen := Lib.hid hlen
  have Hcell2 := Lib.hid hcell2
  have hs12 := hB12.size
  have Hlow := Lib.hid hlow
  obtain ⟨wo, rfl⟩ : ∃ wo : World, wo = w1 := ⟨_, rfl⟩
  clear hlen hv2 hav hB1 hB12 hcell2 hlow H1 H2
  go_wp2_with fail
  go_loopg [6, 8, 15, 23, 30, 41] len (fun g ov _ iv _ _ _ wr => ∃ (k : Nat) (cur : List ByteArray), k + g = len ∧ iv = .int .i64 k ∧ wr.ownsRow w.heap.size 9 1 ov cur.length (cur.map Value.string) ∧ walkL at0 ws = walkL cur (ws.drop k) ∧ cnt cur ≤ cnt at0 + cnt (ws.take k) ∧ (∀ q, ov.ownBlock = some q → q < wo.heap.size ∨ w2.heap.size ≤ q) ∧ (∀ i, i < len → wr.cell? ⟨g2, i, none⟩ = some (.string (ws.getD i ByteArray.empty))) ∧ w2.heap.size ≤ wr.heap.size ∧ Below w.heap.size w wr)
  case atStart => exact ⟨0, at0, by omega, rfl, hav2, rfl, by simp [cnt], fun q hq => .inl (Hlow.out q hq), Hcell2.out, Nat.le_refl _, hB2⟩
  case round =>
    obtain ⟨k, cur, hkg, rfl, hown, hwk, hcn, hlow3, hcell3, h23, hB⟩ := hrel
    have hBs := hB.size
    have Hwk := Lib.hid hwk
    have Hlow3 := Lib.hid hlow3
    have Hcell3 := Lib.hid hcell3
    have hcl := cnt_len cur
    have hct := cnt_take_le ws k
    have hc30 : cnt cur ≤ 2097156 := by omega
    clear hav2 hB2 hlow3 hcell3 hwk
    by_cases hlt : k < len
    · have hc := Hcell3.out k hlt
      have hkl : k < ws.length := by have := Hlen.out; omega
      have hwd := walk_drop cur ws k hkl
      have hct2 := cnt_take ws k hkl
      obtain ⟨x, hx⟩ : ∃ x, x = ws.getD k ByteArray.empty := ⟨_, rfl⟩
      rw [← hx] at hc hwd hct2
      have hxs : x.size ≤ 1048577 := by have := cnt_take_le ws (k + 1); omega
      have Hct2 := Lib.hid hct2
      clear hx hct2
      cases hs1 : some1 x with
      | false =>
        obtain ⟨x1, x2⟩ := none_facts hs1
        have Hn := Lib.hid (show walkL at0 ws = walkL cur (ws.drop (k + 1)) by rw [Hwk.out, hwd]; unfold stepL; rw [hs1]; rfl)
        clear hwd hs1
        go_wp2_with fail
        go_roundg (gk - 1)
        case measure => omega
        case rel => exact ⟨k + 1, cur, by omega, by go_num, hown, Hn.out, by rw [Hct2.out]; omega, Hlow3.out, Hcell3.out, h23, hB⟩
      | true =>
        obtain ⟨x1, x2⟩ := some_facts hs1
        cases hd1 : (x.toList == ([46] : List UInt8)) with
        | true =>
          have Hn := Lib.hid (show walkL at0 ws = walkL cur (ws.drop (k + 1)) by rw [Hwk.out, hwd]; unfold stepL; rw [hd1, Bool.or_true]; rfl)
          clear hwd hs1
          go_wp2_with fail
          go_roundg (gk - 1)
          case measure => omega
          case rel => exact ⟨k + 1, cur, by omega, by go_num, hown, Hn.out, by rw [Hct2.out]; omega, Hlow3.out, Hcell3.out, h23, hB⟩
        | false =>
          cases hd2 : (x.toList == ([46, 46] : List UInt8)) with
          | true =>
            obtain ⟨p, capA, rfl, hnc, hcm, hsome⟩ := own_shape hown
            by_cases hn0 : cur.length = 0
            · have hcur : cur = [] := List.eq_nil_of_length_eq_zero hn0
              have Hn := Lib.hid (show walkL at0 ws = none by rw [Hwk.out, hwd]; unfold stepL; rw [hs1, hd1, hd2, hcur]; rfl)
              have Hf := Lib.hid (show fromP d y = (⟨#[]⟩, false) by rw [He.out, Hn.out])
              clear hwd hs1 hsome
              go_wp2_with fail
              go_ret2
              exact fromEnd_of Hf.out hB
            · obtain ⟨g, rfl⟩ := hsome (by omega)
              have hemp : cur.isEmpty = false := by cases cur with | nil => simp at hn0 | cons a r => rfl
              have Hn := Lib.hid (show walkL at0 ws = walkL cur.dropLast (ws.drop (k + 1)) by rw [Hwk.out, hwd]; unfold stepL; rw [hs1, hd1, hd2, hemp]; rfl)
              have hpop := own_pop hown
              have Hpop := Lib.hid hpop
              have hcd := cnt_dropLast cur
              have hld : cur.dropLast.length = cur.length - 1 := by simp
              have hlow4 := Hlow3.out g rfl
              have hn1 : ¬ ((cur.length : Int) = 0) := by omega
              have hn2 : ((cur.length : Int) == 0) = false := by rw [beq_eq_false_iff_ne]; omega
              have hn3 : 1 ≤ cur.length := by omega
              clear hwd hs1 hsome hown hpop hemp
              generalize hcl2 : cur.length = n at *
              go_wp2_with fail
              go_roundg (gk - 1)
              case measure => omega
              case rel => exact ⟨k + 1, cur.dropLast, by omega, by go_num, by rw [hld]; exact Hpop.out, Hn.out, by rw [Hct2.out]; omega, fun q hq => by cases hq; exact hlow4, Hcell3.out, h23, hB⟩
          | false =>
            have HB := Lib.hid (fun w1 => bad_any x w1)
            cases hbad : badB x with
            | true =>
              have Hn := Lib.hid (show walkL at0 ws = none by rw [Hwk.out, hwd]; unfold stepL; rw [hs1, hd1, hd2, hbad]; rfl)
              have Hf := Lib.hid (show fromP d y = (⟨#[]⟩, false) by rw [He.out, Hn.out])
              rw [hbad] at HB
              clear hwd hs1 hbad
              go_wp2_with fail
              refine (HB.out _).mono ?_
              rintro e w3 ⟨rfl, rfl⟩
              go_wp2_with fail
              go_ret2
              exact fromEnd_of Hf.out hB
            | false =>
              have Hn := Lib.hid (show walkL at0 ws = walkL (cur ++ [x]) (ws.drop (k + 1)) by rw [Hwk.out, hwd]; unfold stepL; rw [hs1, hd1, hd2, hbad]; rfl)
              rw [hbad] at HB
              clear hwd hs1 hbad
              go_wp2_with fail
              refine (HB.out _).mono ?_
              rintro e w3 ⟨rfl, rfl⟩
              go_wp2_with (at_builtin; go_must (refine wpList_append_text rfl (.tmp 19) (.tmp 21) rfl w.heap.size _ cur rfl (hown.alloc _) ⟨wr.heap.size, 0, none⟩ 1 x rfl (one_new _ _ _) (by omega) (by simp; omega) ?_); intro v4 w4 hown4 hgrow4 hwh4)
              go_roundg (gk - 1)
              case measure => omega
              case rel =>
                have hge := hgrow4.size
                simp at hge
                refine ⟨k + 1, cur ++ [x], by omega, by go_num, hown4, Hn.out, ?_, ?_, ?_, by omega, (hB.alloc hBs _).grown hgrow4 (by simp; omega) (fun q hq => (hown.lt q hq).1)⟩
                · rw [Hct2.out, cnt_append]; simp only [cnt]; omega
                · intro q hq
                  rcases hwh4 with h | h
                  · exact Hlow3.out q (h.symm.trans hq)
                  · rw [h] at hq; cases hq; right; simp; omega
                · intro i hi
                  refine hgrow4.cell ?_ ?_
                  · rw [World.cell?_alloc_old _ _ _ (by show g2 ≠ wr.heap.size; omega)]
                    exact Hcell3.out i hi
                  · intro e
                    rcases Hlow3.out g2 e.symm with h | h <;> omega
    · have hkl : ws.drop k = [] := List.drop_eq_nil_of_le (by have := Hlen.out; omega)
      have Hn := Lib.hid (show walkL at0 ws = some cur by rw [Hwk.out, hkl]; rfl)
      have hst := Strs.ofRow hown
      have HJ := Lib.hid (sjoin_any _ cur wr hst (by omega))
      have HG := Lib.hid (fun (w1 : World) (hB2 : Below w.heap.size w w1) => good_any (joinB cur) m w1 (by have := joinB_size cur; omega) (HM.out w1 hB2))
      have Hf := Lib.hid (show fromP d y = (if some1 (joinB cur) && !(goodB (joinB cur)) then (⟨#[]⟩, false) else (joinB cur, true)) by rw [He.out, Hn.out])
      clear hkl hst hown
      generalize joinB cur = z at *
      cases hz1 : some1 z with
      | false =>
        obtain ⟨z1, z2⟩ := none_facts hz1
        have Hf2 := Lib.hid (show fromP d y = (z, true) by rw [Hf.out, hz1]; rfl)
        clear hz1
        go_wp2_with fail
        refine HJ.out.mono ?_
        rintro e w3 ⟨rfl, hB3⟩
        go_wp2_with fail
        go_ret2
        exact fromEnd_of Hf2.out (hB.trans (hB3.mono hBs))
      | true =>
        obtain ⟨z1, z2⟩ := some_facts hz1
        cases hgz : goodB z with
        | true =>
          have Hf2 := Lib.hid (show fromP d y = (z, true) by rw [Hf.out, hz1, hgz]; rfl)
          rw [hgz] at HG
          clear hz1 hgz
          go_wp2_with fail
          refine HJ.out.mono ?_
          rintro e w3 ⟨rfl, hB3⟩
          replace hB := hB.trans (hB3.mono hBs)
          go_wp2_with fail
          refine (HG.out _ hB).mono ?_
          rintro e w4 ⟨rfl, hB4⟩
          replace hB := hB.trans (hB4.mono hB.size)
          go_wp2_with fail
          go_ret2
          exact fromEnd_of Hf2.out hB
        | false =>
          have Hf2 := Lib.hid (show fromP d y = (⟨#[]⟩, false) by rw [Hf.out, hz1, hgz]; rfl)
          rw [hgz] at HG
          clear hz1 hgz
          go_wp2_with fail
          refine HJ.out.mono ?_
          rintro e w3 ⟨rfl, hB3⟩
          replace hB := hB.trans (hB3.mono hBs)
          go_wp2_with fail
          refine (HG.out _ hB).mono ?_
          rintro e w4 ⟨rfl, hB4⟩
          replace hB := hB.trans (hB4.mono hB.size)
          go_wp2_with fail
          go_ret2
          exact fromEnd_of Hf2.out hB
end Go.Proofs.YthgbclgdaaaefaaDoor
