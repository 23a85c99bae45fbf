/- The document's lists of entries. -/
import Derived.Test.YtbdlmdmbaajcmaaZm
namespace Go.Proofs.Ytbdlmdmbaajcmaa
set_option linter.unusedVariables false
set_option linter.unusedSimpArgs false
open Go.ChangeShapes Go.WideShapes Go.ChangeAt Go.RowKit

theorem eltR : Elt 32 56 2 32 enV := ⟨Try.underlying32, by kernel_rfl, info_elt (by kernel_rfl), by decide, enV_one⟩
theorem box2T (w : World) (a v : ByteArray) (t : TypeId) : Below w.heap.size w (w.alloc (.cells #[.string a, .string v] t)) ∧ (w.alloc (.cells #[.string a, .string v] t)).heap[w.heap.size]? = some (.cells #[.string a, .string v] t (0, 0)) :=
  ⟨(Below.refl w.heap.size w).alloc (Nat.le_refl _) _, heap_alloc_new w _⟩
set_option maxRecDepth 100000 in
set_option maxHeartbeats 1000000 in
/-- Where a key's entry stands. -/
theorem at_any (L : List En) (v : Value) (w : World) (hv : LAt 2 enV w v L) (hl : L.length ≤ 16777216) (k : ByteArray) :
    Calls Try.prog 50 #[v, .string k] w fun e w' => e = .returned (.int .i64 (idxV (whereL L k))) ∧ Below w.heap.size w w' := by
  obtain ⟨p, c, rfl, hp⟩ := gen_shape hv
  have HL := Lib.hid hv
  clear hv
  go_enter Try.func50, Try.ntmps50
  go_wp2_with fail
  go_loopg [5, 6, 9] L.length (fun g _ _ iv wr => ∃ j : Nat, j + g = L.length ∧ iv = .int .i64 j ∧ Hid (∀ i (hi : i < L.length), i < j → L[i].1 ≠ k) ∧ Hid (Below w.heap.size w wr))
  case atStart => exact ⟨0, by omega, rfl, Lib.hid (fun j _ h => absurd h (Nat.not_lt_zero _)), Lib.hid (Below.refl _ _)⟩
  case round =>
    obtain ⟨j, hjg, rfl, HA, HB⟩ := hrel
    by_cases hj : j < L.length
    · have hjI : (j : Int) < (L.length : Int) := by omega
      obtain ⟨g0, off, rfl⟩ := hp (by omega)
      obtain ⟨x1, x2, hx⟩ : ∃ x1 x2, L[j] = (x1, x2) := ⟨_, _, rfl⟩
      have hxi : L[j]? = some (x1, x2) := by rw [List.getElem?_eq_getElem hj, hx]
      obtain ⟨hg, hc0, hc1⟩ := HL.out.cellsN hxi
      have e0 := (HB.out.cell (p := ⟨g0, off + j * 2, none⟩) hg).trans hc0
      have e1 := (HB.out.cell (p := ⟨g0, off + j * 2 + 1, none⟩) hg).trans hc1
      obtain ⟨hbB, hbh⟩ := box2T wr x1 x2 56
      have b0 := block_cell hbh 0
      have b1 := block_cell hbh 1
      have HB2 := Lib.hid (HB.out.trans (hbB.mono HB.out.size))
      have HX := Lib.hid hx
      have ke := str_eqb x1 k
      obtain ⟨q, hq⟩ : ∃ q, decide (x1 = k) = q := ⟨_, rfl⟩
      rw [hq] at ke
      have HQ := Lib.hid hq
      clear hq hx hxi hc0 hc1 hbB hbh
      go_upto_region 4 with fail
      generalize wr.alloc (.cells #[.string x1, .string x2] 56) = w2 at *
      clear e0 e1 hg
      cases q with
      | true =>
        have HS := Lib.hid (whereL_some (L := L) (k := k) (i := j) hj (by rw [HX.out]; exact of_decide_eq_true HQ.out) HA.out)
        go_wp2_with fail
        go_ret
        rw [HS.out]
        exact ⟨rfl, HB2.out⟩
      | false =>
        go_wp2_with fail
        go_roundg (gk - 1)
        case measure => omega
        case rel =>
          refine ⟨j + 1, by omega, by go_num, Lib.hid (fun i hi hij => ?_), HB2⟩
          by_cases he : i = j
          · subst he
            rw [HX.out]
            exact of_decide_eq_false HQ.out
          · exact HA.out i hi (by omega)
    · have hjI : ¬ (j : Int) < (L.length : Int) := by omega
      have HN := Lib.hid (whereL_none (L := L) (k := k) (fun i hi => HA.out i hi (by omega)))
      go_wp2_with fail
      go_ret
      rw [HN.out]
      exact ⟨rfl, HB.out⟩
def fltL (L : List En) (k : ByteArray) : List En := L.filter (fun e => decide (e.1 ≠ k))
theorem fltL_len (L : List En) (k : ByteArray) : (fltL L k).length ≤ L.length := List.length_filter_le _ _
/-- A row of its own, of entries. -/
def EnsEnd (G : List En) (w : World) (e : Ending) (w' : World) : Prop := ∃ v, e = .returned v ∧ w'.ownsRow w.heap.size 56 2 v G.length (LF enV G) ∧ Below w.heap.size w w'
theorem EnsEnd.of {G : List En} {w w' : World} {v : Value} {j : Nat} (h : w'.ownsRow w.heap.size 56 2 v j (LF enV G)) (hj : G.length = j) (hB : Below w.heap.size w w') : EnsEnd G w (.returned v) w' :=
  ⟨v, rfl, by rw [hj]; exact h, hB⟩
set_option maxRecDepth 100000 in
set_option maxHeartbeats 1000000 in
/-- Without a key. -/
theorem refDrop_any (L : List En) (v : Value) (w : World) (hv : LAt 2 enV w v L) (hl : L.length ≤ 8388608) (k : ByteArray) :
    Calls Try.prog 53 #[v, .string k] w (EnsEnd (fltL L k) w) := by
  obtain ⟨p, c, rfl, hp⟩ := gen_shape hv
  have HL := Lib.hid hv
  clear hv
  go_enter Try.func53, Try.ntmps53
  go_wp2_with fail
  go_loopg [5, 7, 10] L.length (fun g v _ iv wr => ∃ j : Nat, j + g = L.length ∧ iv = .int .i64 j ∧ Hid (wr.ownsRow w.heap.size 56 2 v (fltL (L.take j) k).length (LF enV (fltL (L.take j) k))) ∧ Hid (Below w.heap.size w wr))
  case atStart => exact ⟨0, by omega, rfl, Lib.hid ⟨by simp [fltL, LF], .inl ⟨rfl, rfl⟩⟩, Lib.hid (Below.refl _ _)⟩
  case round =>
    obtain ⟨j, hjg, rfl, HO, HB⟩ := hrel
    by_cases hj : j < L.length
    · have hjI : (j : Int) < (L.length : Int) := by omega
      obtain ⟨g0, off, rfl⟩ := hp (by omega)
      obtain ⟨x1, x2, hx⟩ : ∃ x1 x2, L[j] = (x1, x2) := ⟨_, _, rfl⟩
      have hxi : L[j]? = some (x1, x2) := by rw [List.getElem?_eq_getElem hj, hx]
      obtain ⟨hg, hc0, hc1⟩ := HL.out.cellsN hxi
      have e0 := (HB.out.cell (p := ⟨g0, off + j * 2, none⟩) hg).trans hc0
      have e1 := (HB.out.cell (p := ⟨g0, off + j * 2 + 1, none⟩) hg).trans hc1
      obtain ⟨hbB, hbh⟩ := box2T wr x1 x2 56
      have b0 := block_cell hbh 0
      have b1 := block_cell hbh 1
      have HB2 := Lib.hid (HB.out.trans (hbB.mono HB.out.size))
      have HO2 := Lib.hid (gen_own_below HO.out hbB)
      have ke := str_eqb x1 k
      obtain ⟨q, hq⟩ : ∃ q, decide (x1 = k) = q := ⟨_, rfl⟩
      rw [hq] at ke
      have ken := ne_of_eqb ke
      have HG := Lib.hid (show fltL (L.take (j + 1)) k = fltL (L.take j) k ++ (if q = true then [] else [(x1, x2)]) from by
        unfold fltL
        rw [List.take_add_one, hxi, List.filter_append]
        cases q with
        | true => simp [of_decide_eq_true hq]
        | false => simp [of_decide_eq_false hq])
      have hG0l := Nat.le_trans (fltL_len (L.take j) k) (by rw [List.length_take]; exact Nat.min_le_left j L.length)
      generalize fltL (L.take j) k = G0 at *
      clear hq hx hxi hc0 hc1 hbB hbh HO
      go_upto_region 5 with fail
      generalize wr.alloc (.cells #[.string x1, .string x2] 56) = w2 at *
      have hsz2 := HB2.out.size
      clear e0 e1 hg
      cases q with
      | true =>
        go_wp2_with fail
        go_roundg (gk - 1)
        case measure => omega
        case rel =>
          refine ⟨j + 1, by omega, by go_num, Lib.hid ?_, HB2⟩
          rw [HG.out, if_pos trivial, List.append_nil]
          exact HO2.out
      | false =>
        go_wp2_with (at_builtin; go_must (refine wpList_append_gen eltR rfl (.tmp 18) (.tmp 20) rfl rfl w.heap.size _ G0 rfl (gen_own_below HO2.out ((Below.refl w2.heap.size w2).alloc (Nat.le_refl _) (.cells #[.string x1, .string x2] 56))) _ [(x1, x2)] (LAt.block rfl rfl (heap_alloc_new w2 (.cells #[.string x1, .string x2] 56))) rfl (by simp only [List.length_cons, List.length_nil]; omega) (by unfold maxLen; simp only [List.length_cons, List.length_nil]; omega) (by simp; omega) ?_); intro v4 w4 hown4 hgrow4)
        have HB4 := Lib.hid ((HB2.out.trans (((Below.refl w2.heap.size w2).alloc (Nat.le_refl _) (.cells #[.string x1, .string x2] 56)).mono HB2.out.size)).grown hgrow4 (by simp; omega) (fun k hk => (HO2.out.lt k hk).1))
        go_roundg (gk - 1)
        case measure => omega
        case rel =>
          refine ⟨j + 1, by omega, by go_num, Lib.hid ?_, HB4⟩
          rw [HG.out, if_neg (by simp)]
          exact hown4
    · obtain rfl : j = L.length := by omega
      have hjI : ¬ (L.length : Int) < (L.length : Int) := by omega
      have HE := Lib.hid (show L.take L.length = L from List.take_length)
      go_wp2_with fail
      go_ret
      have := HO.out
      rw [HE.out] at this
      exact EnsEnd.of this rfl HB.out
set_option maxRecDepth 100000 in
set_option maxHeartbeats 1000000 in
/-- All keys. -/
theorem refKeys_any (L : List En) (v : Value) (w : World) (hv : LAt 2 enV w v L) (hl : L.length ≤ 8388608) :
    Calls Try.prog 38 #[v] w (StrsEnd (L.map (·.1)) w) := by
  obtain ⟨p, c, rfl, hp⟩ := gen_shape hv
  have HL := Lib.hid hv
  clear hv
  go_enter Try.func38, Try.ntmps38
  go_wp2_with fail
  go_loopg [3, 5, 8] L.length (fun g v _ iv wr => ∃ j : Nat, j + g = L.length ∧ iv = .int .i64 j ∧ Hid (wr.ownsRow w.heap.size 9 1 v ((L.take j).map (·.1)).length (LF (fun s : ByteArray => [Value.string s]) ((L.take j).map (·.1)))) ∧ Hid (Below w.heap.size w wr))
  case atStart => exact ⟨0, by omega, rfl, Lib.hid ⟨by simp [LF], .inl ⟨rfl, rfl⟩⟩, Lib.hid (Below.refl _ _)⟩
  case round =>
    obtain ⟨j, hjg, rfl, HO, HB⟩ := hrel
    by_cases hj : j < L.length
    · have hjI : (j : Int) < (L.length : Int) := by omega
      obtain ⟨g0, off, rfl⟩ := hp (by omega)
      obtain ⟨x1, x2, hx⟩ : ∃ x1 x2, L[j] = (x1, x2) := ⟨_, _, rfl⟩
      have hxi : L[j]? = some (x1, x2) := by rw [List.getElem?_eq_getElem hj, hx]
      obtain ⟨hg, hc0, hc1⟩ := HL.out.cellsN hxi
      have e0 := (HB.out.cell (p := ⟨g0, off + j * 2, none⟩) hg).trans hc0
      have e1 := (HB.out.cell (p := ⟨g0, off + j * 2 + 1, none⟩) hg).trans hc1
      obtain ⟨hbB, hbh⟩ := box2T wr x1 x2 56
      have b0 := block_cell hbh 0
      have b1 := block_cell hbh 1
      have HB2 := Lib.hid (HB.out.trans (hbB.mono HB.out.size))
      have HO2 := Lib.hid (gen_own_below HO.out hbB)
      have HG := Lib.hid (show (L.take (j + 1)).map (·.1) = (L.take j).map (·.1) ++ [x1] from by rw [List.take_add_one, hxi, List.map_append]; rfl)
      have hG0l : ((L.take j).map (·.1)).length = j := by rw [List.length_map, List.length_take]; omega
      generalize (L.take j).map (·.1) = G0 at *
      have hjb : G0.length + 1 ≤ 8388609 := by omega
      clear hx hxi hc0 hc1 hbB hbh HO hG0l
      go_upto_region 5 with fail
      generalize wr.alloc (.cells #[.string x1, .string x2] 56) = w2 at *
      have hsz2 := HB2.out.size
      clear e0 e1 hg
      go_wp2_with (at_builtin; go_must (refine wpList_append_gen eltS rfl (.tmp 12) (.tmp 15) rfl rfl w.heap.size _ G0 rfl (gen_own_below HO2.out ((Below.refl w2.heap.size w2).alloc (Nat.le_refl _) (.cells #[.string x1] 9))) _ [x1] (LAt.block rfl rfl (heap_alloc_new w2 (.cells #[.string x1] 9))) rfl (by simp only [List.length_cons, List.length_nil]; omega) (by unfold maxLen; simp only [List.length_cons, List.length_nil]; omega) (by simp; omega) ?_); intro v4 w4 hown4 hgrow4)
      have HB4 := Lib.hid ((HB2.out.trans (((Below.refl w2.heap.size w2).alloc (Nat.le_refl _) (.cells #[.string x1] 9)).mono HB2.out.size)).grown hgrow4 (by simp; omega) (fun k hk => (HO2.out.lt k hk).1))
      go_roundg (gk - 1)
      case measure => omega
      case rel =>
        refine ⟨j + 1, by omega, by go_num, Lib.hid ?_, HB4⟩
        rw [HG.out]
        exact hown4
    · obtain rfl : j = L.length := by omega
      have hjI : ¬ (L.length : Int) < (L.length : Int) := by omega
      have HE := Lib.hid (show L.take L.length = L from List.take_length)
      go_wp2_with fail
      go_ret
      have := HO.out
      rw [HE.out, LF_strs] at this
      exact StrsEnd.of this rfl HB.out
set_option maxRecDepth 100000 in
set_option maxHeartbeats 1000000 in
/-- The record of an entry that is put. -/
theorem record_any (k v : ByteArray) (w : World) (hk : k.size ≤ 1073741824) (hv : v.size ≤ 1073741824) :
    Calls Try.prog 24 #[.agg #[.string k, .string v]] w fun e w' => e = .returned (.string (putB (k, v))) ∧ Below w.heap.size w w' := by
  obtain ⟨r, hr⟩ : ∃ r, r = putB (k, v) := ⟨_, rfl⟩
  rw [← hr]
  have Hr := Lib.hid hr
  clear hr
  have hnew := heap_alloc_new w (.cells #[.string k, .string v] 56)
  have hB1 := (Below.refl w.heap.size w).alloc (Nat.le_refl _) (.cells #[.string k, .string v] 56)
  have c0 := block_cell hnew 0
  have c1 := block_cell hnew 1
  have HB1 := Lib.hid hB1
  clear hnew hB1
  go_enter Try.func24, Try.ntmps24
  go_upto_region 1 with fail
  generalize w.alloc (.cells #[.string k, .string v] 56) = w1 at *
  have HJ := Lib.hid (C.refJoin_any _ [wPut, k, v] _ (strs3 w1 wPut k v 9) (by simp only [C.total]; have : wPut.size = 3 := rfl; omega) (by simp))
  have HB2 := Lib.hid ((HB1.out).trans (((Below.refl w1.heap.size w1).alloc (Nat.le_refl _) (.cells #[.string wPut, .string k, .string v] 9)).mono HB1.out.size))
  rw [show C.joinB [wPut, k, v] = r from Hr.out.symm] at HJ
  go_wp2_with fail
  refine HJ.out.mono ?_
  rintro e w2 ⟨rfl, hB⟩
  have HB3 := Lib.hid (HB2.out.trans (hB.mono HB2.out.size))
  clear hB
  go_wp2_with fail
  go_ret
  exact ⟨rfl, HB3.out⟩
set_option maxRecDepth 100000 in
set_option maxHeartbeats 1000000 in
/-- The record of one that goes. -/
theorem gone_any (k : ByteArray) (w : World) (hk : k.size ≤ 1073741824) :
    Calls Try.prog 26 #[.string k] w fun e w' => e = .returned (.string (goneB k)) ∧ Below w.heap.size w w' := by
  obtain ⟨r, hr⟩ : ∃ r, r = goneB k := ⟨_, rfl⟩
  rw [← hr]
  have HJ := Lib.hid (C.refJoin_any _ [wGone, k] _ (strs2 w wGone k 9) (by simp only [C.total]; have : wGone.size = 4 := rfl; omega) (by simp))
  have HB2 := Lib.hid ((Below.refl w.heap.size w).alloc (Nat.le_refl _) (.cells #[.string wGone, .string k] 9))
  rw [show C.joinB [wGone, k] = r from hr.symm] at HJ
  clear hr
  go_enter Try.func26, Try.ntmps26
  go_wp2_with fail
  refine HJ.out.mono ?_
  rintro e w2 ⟨rfl, hB⟩
  have HB3 := Lib.hid (HB2.out.trans (hB.mono HB2.out.size))
  clear hB
  go_wp2_with fail
  go_ret
  exact ⟨rfl, HB3.out⟩
/-- How many bytes a list of records has. -/
def bytesN (R : List ByteArray) : Nat := G.total R + 8 * R.length
theorem bytesN_snoc (R : List ByteArray) (r : ByteArray) : bytesN (R ++ [r]) = bytesN R + (G.recL r).length := by
  unfold bytesN
  rw [G.total_append, List.length_append, G.recL_len]
  simp [G.total]; omega
theorem bytesN_take (R : List ByteArray) (j : Nat) : bytesN (R.take j) ≤ bytesN R := by
  have h : bytesN (R.take j) + bytesN (R.drop j) = bytesN R := by
    unfold bytesN
    conv => rhs; rw [← List.take_append_drop j R, G.total_append, List.length_append]
    omega
  omega
theorem bytesN_recs (R : List ByteArray) (h : ∀ r ∈ R, r.size ≤ 65536) : (G.recsL R).length = bytesN R := by
  induction R with
  | nil => rfl
  | cons s r ih =>
    have h1 := h s (by simp)
    have h2 := ih (fun x hx => h x (List.mem_cons_of_mem _ hx))
    unfold bytesN at h2 ⊢
    rw [G.recsL, if_neg (by omega), List.length_append, h2, G.recL_len, G.total, List.length_cons]
    omega
set_option maxRecDepth 100000 in
set_option maxHeartbeats 1000000 in
theorem bytesL_any (R : List ByteArray) (v : Value) (w : World) (hv : Strs w v R) (hz : bytesN R ≤ 1073741824) :
    Calls Try.prog 62 #[v] w fun e w' => e = .returned (.int .i64 (bytesN R : Nat)) ∧ Below w.heap.size w w' := by
  have hv0 := hv
  obtain ⟨p, c, rfl⟩ : ∃ p c, v = .slice p R.length c := by
    rcases hv with ⟨⟨p', cap', hv⟩, rfl⟩ | ⟨b, off, cap', hv, _⟩
    · exact ⟨_, _, hv⟩
    · exact ⟨_, _, hv⟩
  obtain ⟨_, hq⟩ := strs_cells hv0
  have Hq := Lib.hid hq
  clear hv hv0 hq
  have hRl : R.length ≤ 1073741824 := by unfold bytesN at hz; omega
  go_enter Try.func62, Try.ntmps62
  go_wp2_with fail
  go_loopg [3, 5, 8] R.length (fun g nv _ iv wr => ∃ j nn : Nat, j + g = R.length ∧ iv = .int .i64 j ∧ nv = .int .i64 nn ∧ Hid (nn = bytesN (R.take j)) ∧ Hid (Below w.heap.size w wr))
  case atStart => exact ⟨0, 0, by omega, rfl, rfl, Lib.hid rfl, Lib.hid (Below.refl _ _)⟩
  case round =>
    obtain ⟨j, nn, hjg, rfl, rfl, HN, HB⟩ := hrel
    by_cases hj : j < R.length
    · have hjI : (j : Int) < (R.length : Int) := by omega
      obtain ⟨hc1, hc2, g0, off, rfl, hg, hcl⟩ := Hq.out (by omega)
      have e0 := (HB.out.cell (p := ⟨g0, off + j, none⟩) hg).trans (hcl j hj)
      have hs : bytesN (R.take (j + 1)) = bytesN (R.take j) + (G.recL R[j]).length := by
        rw [List.take_add_one, List.getElem?_eq_getElem hj]; exact bytesN_snoc _ _
      have hle := bytesN_take R (j + 1)
      have hrl := G.recL_len R[j]
      have hN := HN.out
      have HBy := Lib.hid (G.bytes_any R[j] wr (by omega))
      have HN2 := Lib.hid (show nn + (G.mkB (G.recL R[j])).size = bytesN (R.take (j + 1)) from by rw [G.mkB_size, hs, hN])
      have hnb : nn + (G.mkB (G.recL R[j])).size ≤ 1073741824 := by rw [G.mkB_size]; omega
      clear hcl hs hle hrl hN
      generalize G.mkB (G.recL R[j]) = rb at *
      generalize R[j] = r at *
      go_wp2_with fail
      refine HBy.out.mono ?_
      rintro e w2 ⟨rfl, hB⟩
      have HB2 := Lib.hid (HB.out.trans (hB.mono HB.out.size))
      clear hB HBy
      go_wp2_with fail
      go_roundg (gk - 1)
      case measure => omega
      case rel => exact ⟨j + 1, nn + rb.size, by omega, by go_num, by go_num, HN2, HB2⟩
    · obtain rfl : j = R.length := by omega
      have hjI : ¬ (R.length : Int) < (R.length : Int) := by omega
      have HE := Lib.hid (show nn = bytesN R from by have := HN.out; rwa [List.take_length] at this)
      go_wp2_with fail
      go_ret
      rw [← HE.out]
      exact ⟨rfl, HB.out⟩
end Go.Proofs.Ytbdlmdmbaajcmaa
