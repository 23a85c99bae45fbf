/- Walks: the document's From. -/
import Derived.Test.YthgbclgdaaaefaaDoorWj
namespace Go.Proofs.YthgbclgdaaaefaaDoor
set_option linter.unusedVariables false
open Go.ChangeShapes Go.WideShapes Go.ChangeAt Go.RowKit

def fromR (d y : ByteArray) : ByteArray × Bool :=
  match walkL (splitL d) (cutB 47 y) with
  | none => (⟨#[]⟩, false)
  | some l => (joinS l, !(some1 (joinS l)) || goodB (joinS l))
def FromEndR (d y : ByteArray) (w : World) (e : Ending) (w' : World) : Prop := e = .returned (.tuple #[.string (fromR d y).1, .bool (fromR d y).2]) ∧ Below w.heap.size w w'
theorem fromEndR_of {d y : ByteArray} {r : ByteArray} {b : Bool} (h : fromR d y = (r, b)) {w w' : World} (hB : Below w.heap.size w w') : FromEndR d y w (.returned (.tuple #[.string r, .bool b])) w' := by
  unfold FromEndR; rw [h]; exact ⟨rfl, hB⟩

theorem own_two {w : World} {base : Nat} {v : Value} {n : Nat} {xs : List Value} (h : w.ownsRow base 9 1 v n xs) : (v = .slice none 0 0 ∧ n = 0) ∨ ∃ g cap, v = .slice (some ⟨g, 0, none⟩) n cap ∧ n ≤ cap ∧ cap ≤ 9223372036854775807 := by
  rcases h.2 with ⟨rfl, rfl⟩ | ⟨g, cap, cur, rfl, _, _, hc, hm, _⟩
  · exact .inl ⟨rfl, rfl⟩
  · unfold maxLen at hm
    exact .inr ⟨g, cap, rfl, hc, by omega⟩
theorem own_base {w : World} {b b' : Nat} {v : Value} {n : Nat} {xs : List Value} (h : w.ownsRow b 9 1 v n xs) (hb : b' ≤ b) : w.ownsRow b' 9 1 v n xs := by
  refine ⟨h.1, ?_⟩
  rcases h.2 with h | ⟨g, cap, cur, hv, hg, rest⟩
  · exact .inl h
  · exact .inr ⟨g, cap, cur, hv, Nat.le_trans hb hg, rest⟩

set_option maxHeartbeats 2000000 in
theorem refFrom_any (d y : ByteArray) (m : Int) (w : World) (hm : w.cell? ⟨0, 0, none⟩ = some (.int .i64 m)) (hd : d.size ≤ 1048576) (hy : y.size ≤ 1048576) :
    Calls Tryd.prog 26 #[.string d, .string y] w (FromEndR d y w) := by
  obtain ⟨i0, hi, hz0, hz1, hz2⟩ := info_parts Tryd.info9
  have h0 : 0 < w.heap.size := by
    have := World.block_lt_of_cell? w _ hm
    simpa using this
  have HM := Lib.hid (fun (w1 : World) (hB : Below w.heap.size w w1) => (hB.cell (p := ⟨0, 0, none⟩) h0).trans hm)
  have H1 := Lib.hid (rsplit_any d w (by omega))
  have H2 := Lib.hid (fun (w1 : World) => parts_own y w1 (by omega))
  have hsc := splitL_cnt d
  have hyc := cutB_cnt 47 y
  have hyn := cutB_ne 47 y
  have hfree : ∀ k, k < (cutB 47 y).length → partB ((cutB 47 y).getD k ByteArray.empty) = !(badB ((cutB 47 y).getD k ByteArray.empty)) := fun k hk => part_bad _ (cut_free 47 y _ (by simp only [List.getD, List.getElem?_eq_getElem hk, Option.getD_some]; exact List.getElem_mem hk))
  have He := Lib.hid (show fromR d y = (match walkL (splitL d) (cutB 47 y) with
    | none => (⟨#[]⟩, false)
    | some l => (joinS l, !(some1 (joinS l)) || goodB (joinS l))) from rfl)
  generalize splitL d = at0 at *
  generalize cutB 47 y = ws at *
  have Hfree := Lib.hid hfree
  clear hfree
  go_enter Tryd.func26, Tryd.ntmps26
  go_wp2_with fail
  refine H1.out.mono ?_
  rintro e w1 ⟨av, rfl, hav, hB1⟩
  go_wp2_with fail
  refine (H2.out _).mono ?_
  rintro e w2 ⟨v2, rfl, hv2, hB12⟩
  have hav2 := ownsRow_below hav hB12
  have hlow := fun (q : Nat) hq => (hav.lt q hq).2
  have hB2 := hB1.trans (hB12.mono hB1.size)
  obtain ⟨g2, cap2, rfl, hg2, hg2s, hcap2, hmax2, hcell2⟩ := row_cells hv2 hyn
  have hwl := cnt_len ws
  obtain ⟨len, hlen⟩ : ∃ len, len = ws.length := ⟨_, rfl⟩
  rw [← hlen] at hcap2 hcell2 hwl ⊢
  have Hlen := Lib.hid hlen
  have Hcell2 := Lib.hid hcell2
  have hs12 := hB12.size
  have Hlow := Lib.hid hlow
  obtain ⟨wo, rfl⟩ : ∃ wo : World, wo = w1 := ⟨_, rfl⟩
  clear hlen hv2 hav hB1 hB12 hcell2 hlow H1 H2
  go_wp2_with fail
  go_loopg [6, 8, 15] len (fun g ov _ iv wr => ∃ (k : Nat) (cur : List ByteArray), k + g = len ∧ iv = .int .i64 k ∧ wr.ownsRow w.heap.size 9 1 ov cur.length (cur.map Value.string) ∧ walkL at0 ws = walkL cur (ws.drop k) ∧ cnt cur ≤ cnt at0 + cnt (ws.take k) ∧ (∀ q, ov.ownBlock = some q → q < wo.heap.size ∨ w2.heap.size ≤ q) ∧ (∀ i, i < len → wr.cell? ⟨g2, i, none⟩ = some (.string (ws.getD i ByteArray.empty))) ∧ w2.heap.size ≤ wr.heap.size ∧ Below w.heap.size w wr)
  case atStart => exact ⟨0, at0, by omega, rfl, hav2, rfl, by simp [cnt], fun q hq => .inl (Hlow.out q hq), Hcell2.out, Nat.le_refl _, hB2⟩
  case round =>
    obtain ⟨k, cur, hkg, rfl, hown, hwk, hcn, hlow3, hcell3, h23, hB⟩ := hrel
    have hBs := hB.size
    have Hwk := Lib.hid hwk
    have Hlow3 := Lib.hid hlow3
    have Hcell3 := Lib.hid hcell3
    have hcl := cnt_len cur
    have hct := cnt_take_le ws k
    have hc30 : cnt cur ≤ 2097156 := by omega
    clear hav2 hB2 hlow3 hcell3 hwk
    by_cases hlt : k < len
    · have hc := Hcell3.out k hlt
      have hkl : k < ws.length := by have := Hlen.out; omega
      have hwd := walk_drop cur ws k hkl
      have hct2 := cnt_take ws k hkl
      obtain ⟨x, hx⟩ : ∃ x, x = ws.getD k ByteArray.empty := ⟨_, rfl⟩
      rw [← hx] at hc hwd hct2
      have hxs : x.size ≤ 1048577 := by have := cnt_take_le ws (k + 1); omega
      have Hct2 := Lib.hid hct2
      have Hxe := Lib.hid hx
      clear hx hct2
      cases hs1 : some1 x with
      | false =>
        obtain ⟨x1, x2⟩ := none_facts hs1
        have Hn := Lib.hid (show walkL at0 ws = walkL cur (ws.drop (k + 1)) by rw [Hwk.out, hwd]; unfold stepL; rw [hs1]; rfl)
        clear hwd hs1
        go_wp2_with fail
        go_roundg (gk - 1)
        case measure => omega
        case rel => exact ⟨k + 1, cur, by omega, by go_num, hown, Hn.out, by rw [Hct2.out]; omega, Hlow3.out, Hcell3.out, h23, hB⟩
      | true =>
        obtain ⟨x1, x2⟩ := some_facts hs1
        cases hd1 : (x.toList == ([46] : List UInt8)) with
        | true =>
          have Hn := Lib.hid (show walkL at0 ws = walkL cur (ws.drop (k + 1)) by rw [Hwk.out, hwd]; unfold stepL; rw [hd1, Bool.or_true]; rfl)
          clear hwd hs1
          go_wp2_with fail
          go_roundg (gk - 1)
          case measure => omega
          case rel => exact ⟨k + 1, cur, by omega, by go_num, hown, Hn.out, by rw [Hct2.out]; omega, Hlow3.out, Hcell3.out, h23, hB⟩
        | false =>
          cases hd2 : (x.toList == ([46, 46] : List UInt8)) with
          | true =>
            obtain ⟨p, capA, rfl, hnc, hcm, hsome⟩ := own_shape hown
            by_cases hn0 : cur.length = 0
            · have hcur : cur = [] := List.eq_nil_of_length_eq_zero hn0
              have Hn := Lib.hid (show walkL at0 ws = none by rw [Hwk.out, hwd]; unfold stepL; rw [hs1, hd1, hd2, hcur]; rfl)
              have Hf := Lib.hid (show fromR d y = (⟨#[]⟩, false) by rw [He.out, Hn.out])
              clear hwd hs1 hsome
              go_wp2_with fail
              go_ret2
              exact fromEndR_of Hf.out hB
            · obtain ⟨g, rfl⟩ := hsome (by omega)
              have hemp : cur.isEmpty = false := by cases cur with | nil => simp at hn0 | cons a r => rfl
              have Hn := Lib.hid (show walkL at0 ws = walkL cur.dropLast (ws.drop (k + 1)) by rw [Hwk.out, hwd]; unfold stepL; rw [hs1, hd1, hd2, hemp]; rfl)
              have hpop := own_pop hown
              have Hpop := Lib.hid hpop
              have hcd := cnt_dropLast cur
              have hld : cur.dropLast.length = cur.length - 1 := by simp
              have hlow4 := Hlow3.out g rfl
              have hn1 : ¬ ((cur.length : Int) = 0) := by omega
              have hn2 : ((cur.length : Int) == 0) = false := by rw [beq_eq_false_iff_ne]; omega
              have hn3 : 1 ≤ cur.length := by omega
              clear hwd hs1 hsome hown hpop hemp
              generalize hcl2 : cur.length = n at *
              go_wp2_with fail
              go_roundg (gk - 1)
              case measure => omega
              case rel => exact ⟨k + 1, cur.dropLast, by omega, by go_num, by rw [hld]; exact Hpop.out, Hn.out, by rw [Hct2.out]; omega, fun q hq => by cases hq; exact hlow4, Hcell3.out, h23, hB⟩
          | false =>
            have hpb := Hfree.out k hkl
            rw [← Hxe.out] at hpb
            have HB := Lib.hid (fun w1 => part_any x w1 (by omega))
            rw [hpb] at HB
            clear hpb
            cases hbad : badB x with
            | true =>
              have Hn := Lib.hid (show walkL at0 ws = none by rw [Hwk.out, hwd]; unfold stepL; rw [hs1, hd1, hd2, hbad]; rfl)
              have Hf := Lib.hid (show fromR d y = (⟨#[]⟩, false) by rw [He.out, Hn.out])
              rw [hbad] at HB
              clear hwd hs1 hbad
              go_wp2_with fail
              refine (HB.out _).mono ?_
              rintro e w3 ⟨rfl, rfl⟩
              go_wp2_with fail
              go_ret2
              exact fromEndR_of Hf.out hB
            | false =>
              have Hn := Lib.hid (show walkL at0 ws = walkL (cur ++ [x]) (ws.drop (k + 1)) by rw [Hwk.out, hwd]; unfold stepL; rw [hs1, hd1, hd2, hbad]; rfl)
              rw [hbad] at HB
              clear hwd hs1 hbad
              go_wp2_with fail
              refine (HB.out _).mono ?_
              rintro e w3 ⟨rfl, rfl⟩
              rcases own_two hown with ⟨rfl, hn0⟩ | ⟨g, capA, rfl, hnc, hcm⟩
              · have hcur : cur = [] := List.eq_nil_of_length_eq_zero hn0
                subst hcur
                go_wp2_with (at_builtin; refine wpList_append_text rfl (.tmp 40) (.tmp 42) rfl wr.heap.size _ [] rfl ((World.ownsRow_made wr #[] 0 (Nat.le_refl _) (by decide) rfl).alloc _) ⟨wr.heap.size + 1, 0, none⟩ 1 x rfl (by simpa using one_new (wr.alloc (Obj.cells #[] 9)) (.string x) 9) (by simp) (by simp; omega) ?_; intro v4 w4 hown4 hgrow4 hwh4)
                have hge := hgrow4.size
                simp at hge
                have hB4' := (((Below.refl wr.heap.size wr).alloc (Nat.le_refl _) (Obj.cells #[] 9)).alloc (by simp) (Obj.cells #[Value.string x] 9)).grown hgrow4 (by simp; omega) (fun q hq => by cases hq; exact Nat.le_refl _)
                have hcellB := @hB4'.cell
                have hB4 := hB.trans (hB4'.mono hBs)
                go_roundg (gk - 1)
                case measure => omega
                case rel =>
                  refine ⟨k + 1, [] ++ [x], by omega, by go_num, own_base hown4 (by omega), Hn.out, ?_, ?_, ?_, by omega, hB4⟩
                  · rw [Hct2.out, cnt_append]; simp only [cnt]; omega
                  · intro q hq
                    have := (hown4.lt q hq).1
                    right; omega
                  · intro i hi
                    rw [hcellB (p := ⟨g2, i, none⟩) (by show g2 < wr.heap.size; omega)]
                    exact Hcell3.out i hi
              · have hcl4 : cur.length ≤ 2097156 := by omega
                go_wp2_with (first
                  | (at_builtin; refine wpList_append_own _ rfl (.tmp 38) (.tmp 39) 25 rfl wr.heap.size 9 i0 (.string ⟨#[]⟩) 1 16 Tryd.underlying25 hi hz0 hz1 hz2 rfl (by decide) _ _ _ rfl (World.ownsRow_made wr #[] 0 (Nat.le_refl _) (by decide) rfl) ⟨g, 0, none⟩ cur.length capA (cur.map Value.string) rfl (by simp) ((hown.alloc _).cells rfl) (by intro u hu; obtain ⟨z, _, rfl⟩ := List.mem_map.1 hu; rfl) (by unfold maxLen; omega) (by omega) (by simp) ?_; intro v3 w3 hown3 hgrow3 _; rw [Nat.zero_add, List.nil_append] at hown3; have hge3 := hgrow3.size; simp at hge3; have hB3 := ((Below.refl wr.heap.size wr).alloc (Nat.le_refl _) (Obj.cells #[] 9)).grown hgrow3 (by simp) (fun q hq => by cases hq; exact Nat.le_refl _))
                  | (at_builtin; refine wpList_append_text rfl (.tmp 40) (.tmp 42) rfl wr.heap.size _ cur rfl (hown3.alloc _) ⟨w3.heap.size, 0, none⟩ 1 x rfl (one_new _ _ _) (by omega) (by simp; omega) ?_; intro v4 w4 hown4 hgrow4 hwh4))
                have hge := hgrow4.size
                simp at hge
                have hB4' := (hB3.alloc (by omega) (Obj.cells #[Value.string x] 9)).grown hgrow4 (by simp; omega) (fun q hq => (hown3.lt q hq).1)
                have hcellB := @hB4'.cell
                have hB4 := hB.trans (hB4'.mono hBs)
                go_roundg (gk - 1)
                case measure => omega
                case rel =>
                  refine ⟨k + 1, cur ++ [x], by omega, by go_num, own_base hown4 (by omega), Hn.out, ?_, ?_, ?_, by omega, hB4⟩
                  · rw [Hct2.out, cnt_append]; simp only [cnt]; omega
                  · intro q hq
                    have := (hown4.lt q hq).1
                    right; omega
                  · intro i hi
                    rw [hcellB (p := ⟨g2, i, none⟩) (by show g2 < wr.heap.size; omega)]
                    exact Hcell3.out i hi
    · have hkl : ws.drop k = [] := List.drop_eq_nil_of_le (by have := Hlen.out; omega)
      have Hn := Lib.hid (show walkL at0 ws = some cur by rw [Hwk.out, hkl]; rfl)
      have hst := Strs.ofRow hown
      have HJ := Lib.hid (refJoin_any _ cur wr hst (by omega))
      have HG := Lib.hid (fun (w1 : World) => refGood_any (joinS cur) w1 (by have := joinS_size cur; omega))
      have Hf := Lib.hid (show fromR d y = (joinS cur, !(some1 (joinS cur)) || goodB (joinS cur)) by rw [He.out, Hn.out])
      obtain ⟨p, capA, rfl, _, _, _⟩ := own_shape hown
      clear hkl hst hown
      generalize joinS cur = z at *
      cases hz1 : some1 z with
      | false =>
        obtain ⟨z1, z2⟩ := none_facts hz1
        have Hf2 := Lib.hid (show fromR d y = (z, true) by rw [Hf.out, hz1]; rfl)
        clear hz1
        go_wp2_with fail
        refine HJ.out.mono ?_
        rintro e w3 ⟨rfl, rfl⟩
        go_wp2_with fail
        go_ret2
        exact fromEndR_of Hf2.out hB
      | true =>
        obtain ⟨z1, z2⟩ := some_facts hz1
        have Hf2 := Lib.hid (show fromR d y = (z, goodB z) by rw [Hf.out, hz1]; rfl)
        generalize goodB z = gz at *
        clear hz1
        go_wp2_with fail
        refine HJ.out.mono ?_
        rintro e w3 ⟨rfl, rfl⟩
        go_wp2_with fail
        refine (HG.out _).mono ?_
        rintro e w4 ⟨rfl, hB4⟩
        replace hB := hB.trans (hB4.mono hB.size)
        go_wp2_with fail
        go_ret2
        exact fromEndR_of Hf2.out hB
end Go.Proofs.YthgbclgdaaaefaaDoor
