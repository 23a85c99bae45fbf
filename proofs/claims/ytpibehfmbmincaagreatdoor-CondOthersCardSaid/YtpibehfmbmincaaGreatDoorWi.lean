/- Walks: alive; the program's Eval. -/
import Derived.Test.YtpibehfmbmincaaGreatDoorWh
import Derived.Laws.OwnMore
namespace Go.Proofs.YtpibehfmbmincaaGreatDoor
set_option linter.unusedVariables false
open Go.ChangeShapes Go.WideShapes Go.ChangeAt Go.RowKit

def stepE (on : List ByteArray) (st : List Bool) (x : ByteArray) : Option (List Bool) :=
  if x = notB then (match st with | a :: t => some ((!a) :: t) | [] => none)
  else if x = andB then (match st with | b :: a :: t => some ((a && b) :: t) | _ => none)
  else if x = orB then (match st with | b :: a :: t => some ((a || b) :: t) | _ => none)
  else if tagB x then some (inB on x :: st) else none
def evalS (on : List ByteArray) : List Bool → List ByteArray → Option (List Bool)
  | st, [] => some st
  | st, x :: r => match stepE on st x with | none => none | some u => evalS on u r
def evalR (on parts : List ByteArray) : Bool × Int := match evalS on [] parts with | some [a] => (a, 0) | _ => (false, 4)
theorem evalS_drop (on parts : List ByteArray) (st : List Bool) (k : Nat) (h : k < parts.length) : evalS on st (parts.drop k) = match stepE on st (parts.getD k ByteArray.empty) with | none => none | some u => evalS on u (parts.drop (k + 1)) := by
  have e : parts.drop k = parts.getD k ByteArray.empty :: parts.drop (k + 1) := by
    have e : parts.getD k ByteArray.empty = parts[k] := by simp [List.getD, h]
    rw [e, List.getElem_cons_drop]
  rw [e]; rfl
theorem contains_any (v : Value) (on : List ByteArray) (x : ByteArray) (w : World) (hv : Strs w v on) (hl : on.length ≤ 1073741824) : Calls Tryz.prog 16 #[v, .string x] w fun e w' => e = .returned (.bool (inB on x)) ∧ w = w' := by
  rcases hv with ⟨⟨p, cap, rfl⟩, rfl⟩ | ⟨b, off, cap, rfl, hlc, hm, hb, hcell⟩
  · refine (Tryz.slices_Contains_string_empty p cap x w).mono ?_
    rintro e w' ⟨rfl, rfl⟩
    exact ⟨rfl, rfl⟩
  · refine (Tryz.slices_Contains_string b off on.length cap on x w (Nat.le_refl _) (by omega) hcell).mono ?_
    rintro e w' ⟨rfl, rfl⟩
    refine ⟨?_, rfl⟩
    rw [List.take_length]
    have : Lib.containsS on x = inB on x := by
      rw [Bool.eq_iff_iff, Lib.containsS_iff, inB_iff]
    rw [this]
theorem Tryz.info4 : (Tryz.prog.info? 4).map (fun i => (i.zero, i.size, i.bytes)) = some (some (.bool false), 1, 1) := by kernel_rfl
theorem own4_shape {w : World} {base : Nat} {v : Value} {n : Nat} {xs : List Value} (h : w.ownsRow base 4 1 v n xs) : ∃ p cap, v = .slice p n cap ∧ n ≤ cap ∧ cap ≤ 9223372036854775807 ∧ (0 < n → ∃ g, p = some ⟨g, 0, none⟩ ∧ base ≤ g) := by
  rcases h.2 with ⟨rfl, rfl⟩ | ⟨g, cap, cur, rfl, hg, _, hc, hm, _⟩
  · exact ⟨none, 0, rfl, by omega, by omega, fun h => by omega⟩
  · unfold maxLen at hm
    exact ⟨_, cap, rfl, hc, by omega, fun _ => ⟨g, rfl, hg⟩⟩
/-- A row of answers, the last one first. -/
def Ans (base : Nat) (v : Value) (st : List Bool) (w : World) : Prop := w.ownsRow base 4 1 v st.length (st.reverse.map Value.bool)
theorem ans_cut {base g m c cap : Nat} {t l : List Bool} {w : World} (hm : t.length = m) (h : w.ownsRow base 4 1 (.slice (some ⟨g, 0, none⟩) (m + c) cap) (m + c) ((t.reverse ++ l).map Value.bool)) : w.ownsRow base 4 1 (.slice (some ⟨g, 0, none⟩) m cap) m (t.reverse.map Value.bool) := by
  rcases h.2 with ⟨hv, _⟩ | ⟨g', cap', cur, hv, hb, hg, hc, hmx, hs, ht⟩
  · cases hv
  · cases hv
    refine ⟨by simp [hm], .inr ⟨g, cap, cur, rfl, hb, hg, by omega, hmx, hs, ?_⟩⟩
    rw [Nat.mul_one] at ht ⊢
    have e : cur.toList.take m = (cur.toList.take (m + c)).take m := by rw [List.take_take]; congr 1; omega
    rw [e, ht, List.map_append, List.take_append_of_le_length (by simp [hm]), List.take_of_length_le (by simp [hm])]
theorem ans_cell {base g n cap i : Nat} {l : List Bool} {w : World} {b : Bool} (h : w.ownsRow base 4 1 (.slice (some ⟨g, 0, none⟩) n cap) n (l.map Value.bool)) (hi : l[i]? = some b) : w.cell? ⟨g, i, none⟩ = some (.bool b) := by
  have := h.cells (g := g) rfl i (.bool b) (by rw [List.getElem?_map, hi]; rfl)
  have e : (⟨g, 0, none⟩ : Addr).add i = ⟨g, i, none⟩ := by unfold Addr.add; split <;> simp_all
  rw [e] at this; exact this

theorem wrap_mid (x : Int) (h0 : 0 ≤ x) (h : x < 2000000) : IntKind.i64.wrap x = x := by
  simp [IntKind.wrap, IntKind.bits, IntKind.signed]; omega
def Evald (r : Bool × Int) (w : World) (e : Ending) (w' : World) : Prop := e = .returned (.tuple #[.bool r.1, .int .i64 r.2]) ∧ Below w.heap.size w w'
theorem evald_of {r : Bool × Int} {x : Bool} {c : Int} {w w' : World} (h : r = (x, c)) (hB : Below w.heap.size w w') : Evald r w (.returned (.tuple #[.bool x, .int .i64 c])) w' := by subst h; exact ⟨rfl, hB⟩
theorem lit_is {x : ByteArray} {l : List UInt8} : (x.toList == l) = decide (x = mkB l) := by
  by_cases h : x = mkB l
  · rw [decide_eq_true h, h, Lib.toList_data, mkB_toList]; simp
  · rw [decide_eq_false h, beq_eq_false_iff_ne, Lib.toList_data]
    intro e; exact h (ba_ext e)

set_option maxRecDepth 100000 in
set_option maxHeartbeats 4000000 in
theorem eval_any (v u : Value) (parts on : List ByteArray) (w : World) (hv : Strs w v parts) (hu : Strs w u on) (hl : parts.length ≤ 1048576) (hon : on.length ≤ 1048576) (hz : ∀ x ∈ parts, x.size ≤ 140737488351232) :
    Calls Tryz.prog 34 #[v, u] w (Evald (evalR on parts) w) := by
  obtain ⟨i0, hi, hz0, hz1, hz2⟩ := info_parts Tryz.info4
  have Hu := Lib.hid hu
  have Hz := Lib.hid hz
  obtain ⟨p, cap0, rfl, hp⟩ := strs_shape hv
  have Hp := Lib.hid hp
  obtain ⟨len, hlen⟩ : ∃ len, len = parts.length := ⟨_, rfl⟩
  rw [← hlen] at Hp hl ⊢
  have Hlen := Lib.hid hlen
  have He := Lib.hid (show evalR on parts = match evalS on [] parts with | some [a] => (a, 0) | _ => (false, 4) from rfl)
  generalize evalR on parts = R at *
  clear hv hu hp hlen hz
  go_enter Tryz.func34, Tryz.ntmps34
  go_wp2_with fail
  go_loopg [6, 8, 9, 12, 18, 35, 60, 85] len (fun g rv _ _ iv _ _ _ _ wr => ∃ (k : Nat) (st : List Bool), k + g = len ∧ iv = .int .i64 k ∧ Ans w.heap.size rv st wr ∧ evalS on [] parts = evalS on st (parts.drop k) ∧ st.length ≤ k ∧ Below w.heap.size w wr)
  case atStart => exact ⟨0, [], by omega, rfl, World.ownsRow_nil _ _ _ _, rfl, by simp, Below.refl _ _⟩
  case round =>
    obtain ⟨k, st, hkg, rfl, hown, hev, hstk, hB⟩ := hrel
    have hBs := hB.size
    have Hev := Lib.hid hev
    clear hev
    by_cases hlt : k < len
    · obtain ⟨b, off, rfl, hb, hcap, hmax, hcell⟩ := Hp.out (by omega)
      have hc := (hB.cell (p := ⟨b, off + k, none⟩) hb).trans (hcell k hlt)
      have hkl : k < parts.length := by have := Hlen.out; omega
      have hwd := evalS_drop on parts st k hkl
      have hxz := Hz.out (parts.getD k ByteArray.empty) (by simp only [List.getD, List.getElem?_eq_getElem hkl, Option.getD_some]; exact List.getElem_mem hkl)
      unfold maxLen at hmax
      obtain ⟨x, hx⟩ : ∃ x, x = parts.getD k ByteArray.empty := ⟨_, rfl⟩
      rw [← hx] at hc hwd hxz
      clear hx hcell
      have HT := Lib.hid (fun w1 => tag_any x w1 hxz)
      by_cases c1 : x = notB
      · have h1 : (x.toList == ([33] : List UInt8)) = true := by rw [lit_is]; exact decide_eq_true c1
        have h2 : (x.toList == ([38, 38] : List UInt8)) = false := by rw [c1]; decide +kernel
        have h3 : (x.toList == ([124, 124] : List UInt8)) = false := by rw [c1]; decide +kernel
        have ht : tagB x = false := by rw [c1]; decide +kernel
        rw [ht] at HT
        cases st with
        | nil =>
          have Hn := Lib.hid (show R = (false, 4) by rw [He.out, Hev.out, hwd]; unfold stepE; rw [if_pos c1])
          obtain ⟨pr, capr, rfl, hnc, hcm, hsome⟩ := own4_shape hown
          clear hwd c1 ht hown hsome
          go_wp2_with fail
          refine (HT.out _).mono ?_
          rintro e w1 ⟨rfl, rfl⟩
          go_wp2_with fail
          go_ret2
          exact evald_of Hn.out hB
        | cons a t =>
          have Hn := Lib.hid (show evalS on [] parts = evalS on ((!a) :: t) (parts.drop (k + 1)) by rw [Hev.out, hwd]; unfold stepE; rw [if_pos c1])
          obtain ⟨pr, capr, rfl, hnc, hcm, hsome⟩ := own4_shape hown
          obtain ⟨g, rfl, hg⟩ := hsome (by simp)
          obtain ⟨m, hm⟩ : ∃ m, t.length = m := ⟨_, rfl⟩
          have hown' : wr.ownsRow w.heap.size 4 1 (.slice (some ⟨g, 0, none⟩) (m + 1) capr) (m + 1) ((t.reverse ++ [a]).map Value.bool) := by
            have := hown; unfold Ans at this; simpa [hm] using this
          rw [show (a :: t).length = m + 1 by simp [hm]] at hnc hstk ⊢
          have hca := ans_cell (i := m) hown' (show (t.reverse ++ [a])[m]? = some a by rw [← hm]; simp)
          have hfa := hown'.frozenAt m
          have hst := hown'.stored m (.bool (!a))
          have hs2 : ((t.reverse ++ [a]).map Value.bool).set m (.bool (!a)) = (((!a) :: t).reverse).map Value.bool := by
            rw [← hm]; simp
          rw [hs2] at hst
          have Hst := Lib.hid hst.1
          have Hm := Lib.hid hm
          clear hwd c1 ht hown hown' hst hs2 hsome hm
          go_wp2_with fail
          go_roundg (gk - 1)
          case measure => omega
          case rel => exact ⟨k + 1, (!a) :: t, by omega, by go_num, by unfold Ans; rw [show ((!a) :: t).length = m + 1 by simp [Hm.out]]; exact Hst.out, Hn.out, by simp [Hm.out]; omega, hB.setCell hg _⟩
      by_cases c2 : x = andB
      · have h1 : (x.toList == ([33] : List UInt8)) = false := by rw [c2]; decide +kernel
        have h2 : (x.toList == ([38, 38] : List UInt8)) = true := by rw [c2]; decide +kernel
        have h3 : (x.toList == ([124, 124] : List UInt8)) = false := by rw [c2]; decide +kernel
        have ht : tagB x = false := by rw [c2]; decide +kernel
        rw [ht] at HT
        rcases hst3 : st with _ | ⟨b2, _ | ⟨a, t⟩⟩
        · subst hst3
          have Hn := Lib.hid (show R = (false, 4) by rw [He.out, Hev.out, hwd]; unfold stepE; rw [if_neg c1]; rw [if_pos c2])
          obtain ⟨pr, capr, rfl, hnc, hcm, hsome⟩ := own4_shape hown
          clear hwd c2 c1 ht hown hsome
          go_wp2_with fail
          refine (HT.out _).mono ?_
          rintro e w1 ⟨rfl, rfl⟩
          go_wp2_with fail
          go_ret2
          exact evald_of Hn.out hB
        · subst hst3
          have Hn := Lib.hid (show R = (false, 4) by rw [He.out, Hev.out, hwd]; unfold stepE; rw [if_neg c1]; rw [if_pos c2])
          obtain ⟨pr, capr, rfl, hnc, hcm, hsome⟩ := own4_shape hown
          have hl1 : ([b2] : List Bool).length = 1 := rfl
          rw [hl1] at hnc ⊢
          clear hwd c2 c1 ht hown hsome
          go_wp2_with fail
          refine (HT.out _).mono ?_
          rintro e w1 ⟨rfl, rfl⟩
          go_wp2_with fail
          go_ret2
          exact evald_of Hn.out hB
        · subst hst3
          have Hn := Lib.hid (show evalS on [] parts = evalS on ((a && b2) :: t) (parts.drop (k + 1)) by rw [Hev.out, hwd]; unfold stepE; rw [if_neg c1]; rw [if_pos c2])
          obtain ⟨pr, capr, rfl, hnc, hcm, hsome⟩ := own4_shape hown
          obtain ⟨g, rfl, hg⟩ := hsome (by simp)
          obtain ⟨m, hm⟩ : ∃ m, t.length = m := ⟨_, rfl⟩
          have hown' : wr.ownsRow w.heap.size 4 1 (.slice (some ⟨g, 0, none⟩) (m + 2) capr) (m + 2) ((t.reverse ++ [a, b2]).map Value.bool) := by
            have := hown; unfold Ans at this; simpa [hm] using this
          rw [show (b2 :: a :: t).length = m + 2 by simp [hm]] at hnc hstk ⊢
          have hca := ans_cell (i := m) hown' (show (t.reverse ++ [a, b2])[m]? = some a by rw [← hm]; simp)
          have hcb := ans_cell (i := m + 1) hown' (show (t.reverse ++ [a, b2])[m + 1]? = some b2 by rw [← hm]; simp)
          have hgl := (hown'.lt g rfl).2
          have hm2 : m + 2 ≤ 1048576 := by omega
          have Hcut := Lib.hid (ans_cut hm hown')
          have hwm := wrap_mid (m : Int) (by omega) (by omega)
          have hwm1 := wrap_mid ((m : Int) + 1) (by omega) (by omega)
          have hwm2 : IntKind.i64.wrap ((m : Int) + 2 - 1) = (m : Int) + 1 := by rw [show (m : Int) + 2 - 1 = (m : Int) + 1 by omega]; exact hwm1
          have hb0 : (0 : Int) ≤ (m : Int) := by omega
          have hb1 : (m : Int) ≤ (capr : Int) := by omega
          have hb2 : (m : Int) < (m : Int) + 2 := by omega
          have hb3 : (m : Int) + 1 < (m : Int) + 2 := by omega
          have hb4 : (0 : Int) ≤ (m : Int) + 1 := by omega
          have hb5 : ((m : Int) + 1).toNat = m + 1 := by omega
          have Hm := Lib.hid hm
          clear hwd c2 c1 ht hown hown' hsome hm
          cases a with
          | true =>
            go_wp2_with fail
            first | (go_region_law (refine step_append_lies _ rfl (.tmp 45) (.tmp 58) 76 rfl w.heap.size 4 i0 (.bool false) 1 1 Tryz.underlying76 hi hz0 hz1 hz2 rfl (by decide) (.slice (some ⟨g, 0, none⟩) m capr) m (t.reverse.map Value.bool) (by simp [Act.eval]) (Hcut.out.alloc _) ⟨wr.heap.size, 0, none⟩ 1 1 [.bool b2] (by simp [Act.eval]) rfl (cell_one_new _ _ _) (by intro u hu; simp at hu; subst hu; rfl) (by decide) (by unfold maxLen; omega) (by omega) (by simp; omega) (wr.heap.size + 1) (by simp) ?_; intro g3 cap3 w3 hown3 hgrow3 hat3 hlt3)) | fail
            all_goals
              have hB3 : Below w.heap.size w w3 := ((hB.alloc hBs (Obj.cells #[Value.bool b2] 4)).drew).grown hgrow3 (by show w.heap.size ≤ (wr.alloc _).heap.size; simp; omega) (fun q hq => by cases hq; exact hg)
              have Hown3 := Lib.hid hown3
              clear hown3 hgrow3 hat3
              go_wp2_with fail
              go_roundg (gk - 1)
              case measure => omega
              case rel => exact ⟨k + 1, b2 :: t, by omega, by go_num, by unfold Ans; rw [show (b2 :: t).length = m + 1 by simp [Hm.out]]; have := Hown3.out; simpa using this, by rw [Hn.out]; simp, by simp [Hm.out]; omega, hB3⟩
          | false =>
            go_wp2_with fail
            first | (go_region_law (refine step_append_lies _ rfl (.tmp 45) (.tmp 58) 76 rfl w.heap.size 4 i0 (.bool false) 1 1 Tryz.underlying76 hi hz0 hz1 hz2 rfl (by decide) (.slice (some ⟨g, 0, none⟩) m capr) m (t.reverse.map Value.bool) (by simp [Act.eval]) (Hcut.out.alloc _) ⟨wr.heap.size, 0, none⟩ 1 1 [.bool false] (by simp [Act.eval]) rfl (cell_one_new _ _ _) (by intro u hu; simp at hu; subst hu; rfl) (by decide) (by unfold maxLen; omega) (by omega) (by simp; omega) (wr.heap.size + 1) (by simp) ?_; intro g3 cap3 w3 hown3 hgrow3 hat3 hlt3)) | fail
            all_goals
              have hB3 : Below w.heap.size w w3 := ((hB.alloc hBs (Obj.cells #[Value.bool false] 4)).drew).grown hgrow3 (by show w.heap.size ≤ (wr.alloc _).heap.size; simp; omega) (fun q hq => by cases hq; exact hg)
              have Hown3 := Lib.hid hown3
              clear hown3 hgrow3 hat3
              go_wp2_with fail
              go_roundg (gk - 1)
              case measure => omega
              case rel => exact ⟨k + 1, false :: t, by omega, by go_num, by unfold Ans; rw [show (false :: t).length = m + 1 by simp [Hm.out]]; have := Hown3.out; simpa using this, by rw [Hn.out]; simp, by simp [Hm.out]; omega, hB3⟩
      by_cases c3 : x = orB
      · have h1 : (x.toList == ([33] : List UInt8)) = false := by rw [c3]; decide +kernel
        have h2 : (x.toList == ([38, 38] : List UInt8)) = false := by rw [c3]; decide +kernel
        have h3 : (x.toList == ([124, 124] : List UInt8)) = true := by rw [c3]; decide +kernel
        have ht : tagB x = false := by rw [c3]; decide +kernel
        rw [ht] at HT
        rcases hst3 : st with _ | ⟨b2, _ | ⟨a, t⟩⟩
        · subst hst3
          have Hn := Lib.hid (show R = (false, 4) by rw [He.out, Hev.out, hwd]; unfold stepE; rw [if_neg c1]; rw [if_neg c2]; rw [if_pos c3])
          obtain ⟨pr, capr, rfl, hnc, hcm, hsome⟩ := own4_shape hown
          clear hwd c3 c1 c2 ht hown hsome
          go_wp2_with fail
          refine (HT.out _).mono ?_
          rintro e w1 ⟨rfl, rfl⟩
          go_wp2_with fail
          go_ret2
          exact evald_of Hn.out hB
        · subst hst3
          have Hn := Lib.hid (show R = (false, 4) by rw [He.out, Hev.out, hwd]; unfold stepE; rw [if_neg c1]; rw [if_neg c2]; rw [if_pos c3])
          obtain ⟨pr, capr, rfl, hnc, hcm, hsome⟩ := own4_shape hown
          have hl1 : ([b2] : List Bool).length = 1 := rfl
          rw [hl1] at hnc ⊢
          clear hwd c3 c1 c2 ht hown hsome
          go_wp2_with fail
          refine (HT.out _).mono ?_
          rintro e w1 ⟨rfl, rfl⟩
          go_wp2_with fail
          go_ret2
          exact evald_of Hn.out hB
        · subst hst3
          have Hn := Lib.hid (show evalS on [] parts = evalS on ((a || b2) :: t) (parts.drop (k + 1)) by rw [Hev.out, hwd]; unfold stepE; rw [if_neg c1]; rw [if_neg c2]; rw [if_pos c3])
          obtain ⟨pr, capr, rfl, hnc, hcm, hsome⟩ := own4_shape hown
          obtain ⟨g, rfl, hg⟩ := hsome (by simp)
          obtain ⟨m, hm⟩ : ∃ m, t.length = m := ⟨_, rfl⟩
          have hown' : wr.ownsRow w.heap.size 4 1 (.slice (some ⟨g, 0, none⟩) (m + 2) capr) (m + 2) ((t.reverse ++ [a, b2]).map Value.bool) := by
            have := hown; unfold Ans at this; simpa [hm] using this
          rw [show (b2 :: a :: t).length = m + 2 by simp [hm]] at hnc hstk ⊢
          have hca := ans_cell (i := m) hown' (show (t.reverse ++ [a, b2])[m]? = some a by rw [← hm]; simp)
          have hcb := ans_cell (i := m + 1) hown' (show (t.reverse ++ [a, b2])[m + 1]? = some b2 by rw [← hm]; simp)
          have hgl := (hown'.lt g rfl).2
          have hm2 : m + 2 ≤ 1048576 := by omega
          have Hcut := Lib.hid (ans_cut hm hown')
          have hwm := wrap_mid (m : Int) (by omega) (by omega)
          have hwm1 := wrap_mid ((m : Int) + 1) (by omega) (by omega)
          have hwm2 : IntKind.i64.wrap ((m : Int) + 2 - 1) = (m : Int) + 1 := by rw [show (m : Int) + 2 - 1 = (m : Int) + 1 by omega]; exact hwm1
          have hb0 : (0 : Int) ≤ (m : Int) := by omega
          have hb1 : (m : Int) ≤ (capr : Int) := by omega
          have hb2 : (m : Int) < (m : Int) + 2 := by omega
          have hb3 : (m : Int) + 1 < (m : Int) + 2 := by omega
          have hb4 : (0 : Int) ≤ (m : Int) + 1 := by omega
          have hb5 : ((m : Int) + 1).toNat = m + 1 := by omega
          have Hm := Lib.hid hm
          clear hwd c3 c1 c2 ht hown hown' hsome hm
          cases a with
          | true =>
            go_wp2_with fail
            first | (go_region_law (refine step_append_lies _ rfl (.tmp 70) (.tmp 83) 76 rfl w.heap.size 4 i0 (.bool false) 1 1 Tryz.underlying76 hi hz0 hz1 hz2 rfl (by decide) (.slice (some ⟨g, 0, none⟩) m capr) m (t.reverse.map Value.bool) (by simp [Act.eval]) (Hcut.out.alloc _) ⟨wr.heap.size, 0, none⟩ 1 1 [.bool true] (by simp [Act.eval]) rfl (cell_one_new _ _ _) (by intro u hu; simp at hu; subst hu; rfl) (by decide) (by unfold maxLen; omega) (by omega) (by simp; omega) (wr.heap.size + 1) (by simp) ?_; intro g3 cap3 w3 hown3 hgrow3 hat3 hlt3)) | fail
            all_goals
              have hB3 : Below w.heap.size w w3 := ((hB.alloc hBs (Obj.cells #[Value.bool true] 4)).drew).grown hgrow3 (by show w.heap.size ≤ (wr.alloc _).heap.size; simp; omega) (fun q hq => by cases hq; exact hg)
              have Hown3 := Lib.hid hown3
              clear hown3 hgrow3 hat3
              go_wp2_with fail
              go_roundg (gk - 1)
              case measure => omega
              case rel => exact ⟨k + 1, true :: t, by omega, by go_num, by unfold Ans; rw [show (true :: t).length = m + 1 by simp [Hm.out]]; have := Hown3.out; simpa using this, by rw [Hn.out]; simp, by simp [Hm.out]; omega, hB3⟩
          | false =>
            go_wp2_with fail
            first | (go_region_law (refine step_append_lies _ rfl (.tmp 70) (.tmp 83) 76 rfl w.heap.size 4 i0 (.bool false) 1 1 Tryz.underlying76 hi hz0 hz1 hz2 rfl (by decide) (.slice (some ⟨g, 0, none⟩) m capr) m (t.reverse.map Value.bool) (by simp [Act.eval]) (Hcut.out.alloc _) ⟨wr.heap.size, 0, none⟩ 1 1 [.bool b2] (by simp [Act.eval]) rfl (cell_one_new _ _ _) (by intro u hu; simp at hu; subst hu; rfl) (by decide) (by unfold maxLen; omega) (by omega) (by simp; omega) (wr.heap.size + 1) (by simp) ?_; intro g3 cap3 w3 hown3 hgrow3 hat3 hlt3)) | fail
            all_goals
              have hB3 : Below w.heap.size w w3 := ((hB.alloc hBs (Obj.cells #[Value.bool b2] 4)).drew).grown hgrow3 (by show w.heap.size ≤ (wr.alloc _).heap.size; simp; omega) (fun q hq => by cases hq; exact hg)
              have Hown3 := Lib.hid hown3
              clear hown3 hgrow3 hat3
              go_wp2_with fail
              go_roundg (gk - 1)
              case measure => omega
              case rel => exact ⟨k + 1, b2 :: t, by omega, by go_num, by unfold Ans; rw [show (b2 :: t).length = m + 1 by simp [Hm.out]]; have := Hown3.out; simpa using this, by rw [Hn.out]; simp, by simp [Hm.out]; omega, hB3⟩
      have h1 : (x.toList == ([33] : List UInt8)) = false := by rw [lit_is]; exact decide_eq_false c1
      have h2 : (x.toList == ([38, 38] : List UInt8)) = false := by rw [lit_is]; exact decide_eq_false c2
      have h3 : (x.toList == ([124, 124] : List UInt8)) = false := by rw [lit_is]; exact decide_eq_false c3
      obtain ⟨pr, capr, rfl, hnc, hcm, hsome⟩ := own4_shape hown
      have Hown := Lib.hid hown
      cases ht : tagB x with
      | false =>
        have Hn := Lib.hid (show R = (false, 4) by rw [He.out, Hev.out, hwd]; unfold stepE; rw [if_neg c1, if_neg c2, if_neg c3, ht]; rfl)
        rw [ht] at HT
        clear hwd c1 c2 c3 ht hown hsome
        generalize st.length = n at *
        go_wp2_with fail
        refine (HT.out _).mono ?_
        rintro e w1 ⟨rfl, rfl⟩
        go_wp2_with fail
        go_ret2
        exact evald_of Hn.out hB
      | true =>
        have Hn := Lib.hid (show evalS on [] parts = evalS on (inB on x :: st) (parts.drop (k + 1)) by rw [Hev.out, hwd]; unfold stepE; rw [if_neg c1, if_neg c2, if_neg c3, ht]; rfl)
        rw [ht] at HT
        have HC := Lib.hid (contains_any u on x wr (Hu.out.below hB) (by omega))
        have hn2 : st.length ≤ 1048576 := by omega
        clear hwd c1 c2 c3 ht hown hsome
        generalize inB on x = z at *
        have hxs : ((z :: st).reverse).map Value.bool = st.reverse.map Value.bool ++ [.bool z] := by simp
        have Hxs := Lib.hid hxs
        have hown2 : wr.ownsRow w.heap.size 4 1 (.slice pr st.length capr) st.length (st.reverse.map Value.bool) := Hown.out
        have Hown2 := Lib.hid hown2
        clear hxs hown2 Hown
        obtain ⟨n, hn⟩ : ∃ n, st.length = n := ⟨_, rfl⟩
        rw [hn] at Hown2 hn2 hnc hstk ⊢
        have Hnn := Lib.hid hn
        clear hn
        go_wp2_with fail
        refine (HT.out _).mono ?_
        rintro e w1 ⟨rfl, rfl⟩
        go_wp2_with fail
        refine HC.out.mono ?_
        rintro e w1 ⟨rfl, rfl⟩
        go_wp2_with (at_builtin; go_must (refine wpList_append_own _ rfl (.tmp 88) (.tmp 92) 76 rfl w.heap.size 4 i0 (.bool false) 1 1 Tryz.underlying76 hi hz0 hz1 hz2 rfl (by decide) _ _ _ rfl (Hown2.out.alloc _) ⟨wr.heap.size, 0, none⟩ 1 1 [.bool z] rfl rfl (cell_one_new _ _ _) (by intro u hu; simp at hu; subst hu; rfl) (by unfold maxLen; omega) (by omega) (by simp; omega) ?_); intro v3 w3 hown3 hgrow3 _)
        have hB3 := (hB.alloc hBs (Obj.cells #[Value.bool z] 4)).grown hgrow3 (by simp; omega) (fun q hq => (Hown2.out.lt q hq).1)
        go_roundg (gk - 1)
        case measure => omega
        case rel => exact ⟨k + 1, z :: st, by omega, by go_num, by unfold Ans; rw [Hxs.out, show (z :: st).length = n + 1 by simp [Hnn.out]]; exact hown3, Hn.out, by simp [Hnn.out]; omega, hB3⟩
    · have hkl : parts.drop k = [] := List.drop_eq_nil_of_le (by have := Hlen.out; omega)
      have hR : R = match (some st : Option (List Bool)) with | some [a] => (a, 0) | _ => (false, 4) := by rw [He.out, Hev.out, hkl]; rfl
      obtain ⟨pr, capr, rfl, hnc, hcm, hsome⟩ := own4_shape hown
      clear hkl
      rcases hst3 : st with _ | ⟨a, _ | ⟨b2, t⟩⟩
      · subst hst3
        have Hn := Lib.hid (show R = (false, 4) from hR)
        clear hR hown hsome
        go_wp2_with fail
        go_ret2
        exact evald_of Hn.out hB
      · subst hst3
        have Hn := Lib.hid (show R = (a, 0) from hR)
        obtain ⟨g, rfl, hg⟩ := hsome (by simp)
        have hown' : wr.ownsRow w.heap.size 4 1 (.slice (some ⟨g, 0, none⟩) 1 capr) 1 (([a] : List Bool).map Value.bool) := hown
        have hca := ans_cell (i := 0) hown' rfl
        rw [show ([a] : List Bool).length = 1 from rfl] at hnc ⊢
        clear hR hown hown' hsome
        go_wp2_with fail
        go_ret2
        exact evald_of Hn.out hB
      · subst hst3
        have Hn := Lib.hid (show R = (false, 4) from hR)
        have hl2 : (a :: b2 :: t).length = t.length + 2 := by simp
        have hne : ((((t.length + 2 : Nat)) : Int) == 1) = false := by rw [beq_eq_false_iff_ne]; omega
        rw [hl2] at hnc ⊢
        clear hR hown hsome hl2
        generalize t.length = m at *
        go_wp2_with fail
        go_ret2
        exact evald_of Hn.out hB
end Go.Proofs.YtpibehfmbmincaaGreatDoor
