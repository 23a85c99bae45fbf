/- Walks: the statements PlusLines, PlusParses, PlusOne. -/
import Derived.Test.YtfkmijdpcenieaaDoorSc
namespace Go.Proofs.YtfkmijdpcenieaaDoor
set_option linter.unusedVariables false
open Go.ChangeShapes Go.WideShapes Go.ChangeAt Go.RowKit

theorem max_of {W : World} {m : Int} (hm : W.cell? ⟨0, 0, none⟩ = some (.int .i64 m)) : MaxAt W := ⟨World.block_lt_of_cell? W _ hm, m, hm⟩
theorem great_no {l : List ByteArray} (h : greatB l = false) : sums l ≤ 1024 ∧ l.length ≤ 20 := by
  unfold greatB at h
  rw [Bool.or_eq_false_iff] at h
  have h1 := of_decide_eq_false h.1
  have h2 := of_decide_eq_false h.2
  omega

set_option maxHeartbeats 1000000 in
theorem lines_walk (v : Value) (s : ByteArray) (l : List ByteArray) (w : World) (hs : s.size ≤ 140737488351232) (hv : Strs w v l) (hz : ∀ x ∈ l, x.size ≤ 140737488351232) (hl : l.length ≤ 9223372036854775807) (hm : MaxAt w) :
    Calls Tryd.prog 3 #[.string s, v] w (LawEnd w) := by
  have HA := Lib.hid (alive_any w hm)
  have HG := Lib.hid (fun w1 (h1 : Below w.heap.size w w1) => great_any v l w1 (hv.below h1) hz hl)
  obtain ⟨G, hG⟩ : ∃ G, G = greatB l := ⟨_, rfl⟩
  rw [← hG] at HG
  cases G with
  | true =>
    obtain ⟨p, cap, rfl, _⟩ := strs_shape hv
    clear hv hz hm hG
    go_enter Tryd.func3, Tryd.ntmps3
    go_wp2_with fail
    refine HA.out.mono ?_
    rintro e w1 ⟨rfl, hB⟩
    go_wp2_with fail
    refine (HG.out _ hB).mono ?_
    rintro e w2 ⟨rfl, rfl⟩
    go_wp2_with fail
    go_ret
    exact ⟨rfl, hB⟩
  | false =>
    obtain ⟨g1, g2⟩ := great_no hG.symm
    by_cases hss : s.size ≤ 1024
    · have hsI : ¬ (1024 : Int) < (s.size : Int) := by omega
      have HL := Lib.hid (fun w1 (h1 : Below w.heap.size w w1) => line_any s w1 (by omega) (hm.below hm.1 h1))
      have HM := Lib.hid (fun w1 (h1 : Below w.heap.size w w1) => lines_any v l w1 (hv.below h1) (by omega) (by omega) (hm.below hm.1 h1))
      have HR := Lib.hid (fun w1 (h1 : Below w.heap.size w w1) => rlines_any v l w1 (hv.below h1) (by omega) (by omega))
      have HO := Lib.hid (fun w1 => good_any s w1 (by omega))
      have HE := Lib.hid (fun (h : okL s = true) w1 => rline_any s w1 (by omega) (okL_some h))
      obtain ⟨p, cap, rfl, _⟩ := strs_shape hv
      clear hv hz hm hG
      obtain ⟨X, hX⟩ : ∃ X, X = valL s := ⟨_, rfl⟩
      rw [← hX] at HL HE
      obtain ⟨Y, hY⟩ : ∃ Y, Y = valLs l := ⟨_, rfl⟩
      rw [← hY] at HM HR
      clear hX hY
      have hx1 : (X.toList == X.toList) = true := by simp
      have hx2 : (X.toList != X.toList) = false := by simp
      have hy1 : (Y.toList == Y.toList) = true := by simp
      have hy2 : (Y.toList != Y.toList) = false := by simp
      cases hk : okL s <;> cases hj : okLs l
      all_goals
        rw [hk] at HL HO
        rw [hj] at HM HR
        simp only [reduceIte, Bool.false_eq_true, noneB] at HL HM HR
        try (have HE2 := Lib.hid (HE.out hk))
        clear HE hk hj
        go_enter Tryd.func3, Tryd.ntmps3
        go_wp2_with fail
        refine HA.out.mono ?_
        rintro e w1 ⟨rfl, hB⟩
        go_wp2_with fail
        refine (HG.out _ hB).mono ?_
        rintro e w2 ⟨rfl, rfl⟩
        go_wp2_with fail
        refine (HL.out _ hB).mono ?_
        rintro e w2 ⟨rfl, hB2⟩
        replace hB := hB.trans (hB2.mono hB.size)
        clear hB2
        go_wp2_with fail
        refine (HM.out _ hB).mono ?_
        rintro e w3 ⟨rfl, hB2⟩
        replace hB := hB.trans (hB2.mono hB.size)
        clear hB2
        go_wp2_with fail
        refine (HR.out _ hB).mono ?_
        rintro e w4 ⟨rfl, hB2⟩
        replace hB := hB.trans (hB2.mono hB.size)
        clear hB2
        go_wp2_with fail
        refine (HO.out _).mono ?_
        rintro e w5 ⟨rfl, hB2⟩
        replace hB := hB.trans (hB2.mono hB.size)
        clear hB2
        go_wp2_with fail
        try (refine (HE2.out _).mono ?_; rintro e w6 ⟨rfl, hB2⟩; replace hB := hB.trans (hB2.mono hB.size); clear hB2; go_wp2_with fail)
        go_ret
        exact ⟨rfl, hB⟩
    · have hsI : (1024 : Int) < (s.size : Int) := by omega
      obtain ⟨p, cap, rfl, _⟩ := strs_shape hv
      clear hv hz hm hG
      go_enter Tryd.func3, Tryd.ntmps3
      go_wp2_with fail
      refine HA.out.mono ?_
      rintro e w1 ⟨rfl, hB⟩
      go_wp2_with fail
      refine (HG.out _ hB).mono ?_
      rintro e w2 ⟨rfl, rfl⟩
      go_wp2_with fail
      go_ret
      exact ⟨rfl, hB⟩

theorem parseP_len (s : ByteArray) : (parseP s).1.length ≤ 4096 := by
  have H : ∀ t : ByteArray, (parseR t).1.length ≤ 4096 := fun t => by
    by_cases h : t.size ≤ 1024
    · exact parse_len h
    · unfold parseR; rw [if_pos (by omega)]; simp
  unfold parseP
  split
  · split
    · exact H _
    · simp
  · exact H _
set_option maxHeartbeats 1000000 in
theorem parses_walk (s : ByteArray) (w : World) (hs : s.size ≤ 140737488351232) (hm : MaxAt w) : Calls Tryd.prog 4 #[.string s] w (LawEnd w) := by
  have H10 := Lib.hid (alive_any w hm)
  by_cases hle : s.size ≤ 2048
  · have hleI : ¬ (2048 : Int) < (s.size : Int) := by omega
    have HP := Lib.hid (fun w1 (h1 : Below w.heap.size w w1) => parse14_any s w1 (by omega) (hm.below hm.1 h1))
    have HQ := Lib.hid (fun w1 => rparse14_any s w1 (by omega))
    have hlen := parseP_len s
    unfold Parsed at HP HQ
    obtain ⟨⟨l, c⟩, hr⟩ : ∃ r, parseP s = r := ⟨_, rfl⟩
    rw [hr] at HP HQ hlen
    simp only at HP HQ hlen
    have HS := Lib.hid (fun (v z : Value) (w1 : World) (hv : Strs w1 v l) (hz : Strs w1 z l) => same_any v z l l w1 hv hz (by omega) (by omega))
    rw [decide_eq_true (rfl : l = l)] at HS
    have hcc : (c == c) = true := by simp
    clear hr hlen hm
    go_enter Tryd.func4, Tryd.ntmps4
    go_wp2_with fail
    refine H10.out.mono ?_
    rintro e' w1 ⟨rfl, hB⟩
    go_wp2_with fail
    refine (HP.out _ hB).mono ?_
    rintro e' w2 ⟨v, rfl, hv, hB2⟩
    replace hB := hB.trans (hB2.mono hB.size)
    have Hv := Lib.hid hv
    clear hB2 hv
    go_wp2_with fail
    refine (HQ.out _).mono ?_
    rintro e' w3 ⟨v3, rfl, hv3, hB2⟩
    replace hB := hB.trans (hB2.mono hB.size)
    have Hv2 := Lib.hid (Hv.out.below hB2)
    have Hv3 := Lib.hid hv3
    clear hB2 hv3 Hv
    go_wp2_with fail
    refine (HS.out _ _ _ Hv2.out Hv3.out).mono ?_
    rintro e' w4 ⟨rfl, k4, rfl⟩
    replace hB := below_drewN hB k4
    go_wp2_with fail
    go_ret
    exact ⟨rfl, hB⟩
  · have hleI : (2048 : Int) < (s.size : Int) := by omega
    clear hm
    go_enter Tryd.func4, Tryd.ntmps4
    go_wp2_with fail
    refine H10.out.mono ?_
    rintro e' w1 ⟨rfl, hB⟩
    go_wp2_with fail
    go_ret
    exact ⟨rfl, hB⟩

/-! ### PlusOne -/
theorem cutB_none {c : UInt8} {p : List UInt8} (h : c ∉ p) : cutB c (mkB p) = [mkB p] := by
  unfold cutB
  rw [mkB_toList, cuts_none c p [] h]
  rfl
theorem word_line {x : ByteArray} {p : List UInt8} (hx : wF x.data.toList [] = [p]) (hc : 44 ∉ p) (ht : okT (mkB p) = true) : okL x = true ∧ valL x = mkB p := by
  have hw : wordsB x = [mkB p] := by unfold wordsB; rw [hx]; rfl
  have hcut := cutB_none hc
  unfold okL valL
  rw [hw]
  unfold okO valO
  simp only [List.all_cons, List.all_nil, List.map_cons, List.map_nil, hcut, ht, idB]
  exact ⟨rfl, rfl⟩
theorem tag_no {p : List UInt8} (h : p.all tagC = true) (c : UInt8) (hc : tagC c = false) : c ∉ p := fun hm => by
  have := List.all_eq_true.1 h c hm
  rw [hc] at this; cases this
theorem tag_blank {p : List UInt8} (h : p.all tagC = true) : ∀ b ∈ p, blank b = false := fun b hb => by
  cases e : blank b with
  | false => rfl
  | true => have := tag_not_blank e; rw [List.all_eq_true.1 h b hb] at this; cases this
def notT (t : ByteArray) : ByteArray := (⟨#[33]⟩ : ByteArray) ++ t
def spT (t : ByteArray) : ByteArray := (⟨#[32, 33]⟩ : ByteArray) ++ t ++ ⟨#[9]⟩
theorem notT_list (t : ByteArray) : (notT t).data.toList = 33 :: t.data.toList := by
  unfold notT; simp [ByteArray.data_append]
theorem spT_list (t : ByteArray) : (spT t).data.toList = 32 :: (33 :: t.data.toList ++ [9]) := by
  unfold spT; simp [ByteArray.data_append]
theorem tag_lines {t : ByteArray} (h : tagB t = true) : (okL t = true ∧ valL t = t) ∧ (okL (spT t) = true ∧ valL (spT t) = notT t) := by
  obtain ⟨h0, h1⟩ := tag_shape h
  have hb := tag_blank h1
  have hmk : mkB t.data.toList = t := ba_ext (by rw [mkB_toList])
  have hno : isNot t = false := by
    cases e : isNot t with
    | false => rfl
    | true =>
      obtain ⟨_, r, hr⟩ := trim_yes e
      rw [hr] at h1
      simp only [List.all_cons, Bool.and_eq_true] at h1
      exact absurd h1.1 (by decide)
  have hn2 : notT t = mkB (33 :: t.data.toList) := ba_ext (by rw [notT_list, mkB_toList])
  refine ⟨?_, ?_⟩
  · have := word_line (x := t) (p := t.data.toList) ?_ (tag_no h1 44 (by decide)) ?_
    · rw [hmk] at this; exact this
    · have := wF_run t.data.toList [] [] hb
      rw [List.append_nil, List.nil_append] at this
      rw [this, wF_nil, flush_ne h0]
    · rw [hmk]; unfold okT; rw [trim_no hno]; exact h
  · rw [hn2]
    refine word_line ?_ ?_ ?_
    · rw [spT_list, wF_yes (by decide), flush_nil, wF_run (33 :: t.data.toList) [9] [] (fun b hb2 => by
        rcases List.mem_cons.1 hb2 with rfl | hb2
        · decide
        · exact hb b hb2), List.nil_append, wF_yes (by decide), wF_nil, flush_nil, flush_ne (by simp)]
    · intro hm
      rcases List.mem_cons.1 hm with hm | hm
      · cases hm
      · exact tag_no h1 44 (by decide) hm
    · unfold okT trimB Lib.trimPrefix
      rw [mkB_toList]
      have hp : Lib.hasPrefix (33 :: t.data.toList) [33] = true := by simp [Lib.hasPrefix, List.isPrefixOf]
      rw [hp]
      simp only [reduceIte, List.length_cons, List.length_nil, List.drop_succ_cons, List.drop_zero]
      rw [hmk]; exact h
theorem spT_size (t : ByteArray) : (spT t).size = t.size + 3 := by
  rw [← ba_len, spT_list]; simp
theorem all_succ {ss : List ByteArray} {k : Nat} (hk : k < ss.length) : (ss.take (k + 1)).all okL = ((ss.take k).all okL && okL (ss.getD k ByteArray.empty)) := by
  rw [List.take_succ_eq_append_getElem hk]
  simp only [List.all_append, List.all_cons, List.all_nil, Bool.and_true, List.getD_eq_getElem?_getD, List.getElem?_eq_getElem hk, Option.getD_some]
end Go.Proofs.YtfkmijdpcenieaaDoor
