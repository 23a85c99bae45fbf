/- The same; has; great. -/
import Derived.Test.YtbdlmdmbaajcmaaZt
import Derived.Test.YtbdlmdmbaajcmaaKr
namespace Go.Proofs.Ytbdlmdmbaajcmaa
set_option linter.unusedVariables false
set_option linter.unusedSimpArgs false
open Go.ChangeShapes Go.WideShapes Go.ChangeAt Go.RowKit

theorem strs_shape5 {w : World} {v : Value} {R : List ByteArray} (h : Strs w v R) : ∃ p c, v = .slice p R.length c := by
  rcases h with ⟨⟨p', cap', hv⟩, rfl⟩ | ⟨b, off, cap', hv, _⟩
  · exact ⟨_, _, hv⟩
  · exact ⟨_, _, hv⟩
set_option maxRecDepth 100000 in
set_option maxHeartbeats 1000000 in
/-- Are two lists of strings the same? -/
theorem sameS_any (u1 u2 : Value) (A B : List ByteArray) (w : World) (h1 : Strs w u1 A) (h2 : Strs w u2 B) (hA : A.length ≤ 16777216) (hB : B.length ≤ 16777216) :
    Calls Try.prog 37 #[u1, u2] w fun e w' => e = .returned (.bool (decide (A = B))) ∧ Below w.heap.size w w' := by
  obtain ⟨p1, c1, rfl⟩ := strs_shape5 h1
  obtain ⟨p2, c2, rfl⟩ := strs_shape5 h2
  obtain ⟨_, q1⟩ := strs_cells h1
  obtain ⟨_, q2⟩ := strs_cells h2
  have H1 := Lib.hid q1
  have H2 := Lib.hid q2
  clear h1 h2 q1 q2
  obtain ⟨r, hr⟩ : ∃ r, r = decide (A = B) := ⟨_, rfl⟩
  rw [← hr]
  have Hr := Lib.hid hr
  clear hr
  by_cases hl : A.length = B.length
  case neg =>
    have hn : ((A.length : Int) != (B.length : Int)) = true := bne_iff_ne.2 (by omega)
    have HE := Lib.hid (show r = false from by rw [Hr.out]; exact decide_eq_false (fun e => hl (by rw [e])))
    go_enter Try.func37, Try.ntmps37
    go_wp2_with fail
    go_ret
    rw [HE.out]
    exact ⟨rfl, Below.refl _ _⟩
  have hn : ((A.length : Int) != (B.length : Int)) = false := by rw [hl]; simp
  go_enter Try.func37, Try.ntmps37
  go_wp2_with fail
  go_loopg [5, 13] A.length (fun g _ iv wr => ∃ j : Nat, j + g = A.length ∧ iv = .int .i64 j ∧ Hid (A.take j = B.take j) ∧ Hid (Below w.heap.size w wr))
  case atStart => exact ⟨0, by omega, rfl, Lib.hid rfl, Lib.hid (Below.refl _ _)⟩
  case round =>
    obtain ⟨j, hjg, rfl, HT, HB⟩ := hrel
    by_cases hj : j < A.length
    · have hjI : (j : Int) < (A.length : Int) := by omega
      have hjB : j < B.length := by omega
      have hjBI : (j : Int) < (B.length : Int) := by omega
      obtain ⟨_, _, g1, o1, rfl, hg1, hc1⟩ := H1.out (by omega)
      obtain ⟨_, _, g2, o2, rfl, hg2, hc2⟩ := H2.out (by omega)
      have e1 := (HB.out.cell (p := ⟨g1, o1 + j, none⟩) hg1).trans (hc1 j hj)
      have e2 := (HB.out.cell (p := ⟨g2, o2 + j, none⟩) hg2).trans (hc2 j hjB)
      have ke := str_eqb A[j] B[j]
      obtain ⟨q, hq⟩ : ∃ q, decide (A[j] = B[j]) = q := ⟨_, rfl⟩
      rw [hq] at ke
      have ken := ne_of_eqb ke
      have HTn := Lib.hid (show q = true → A.take (j + 1) = B.take (j + 1) from fun h => by
        rw [h] at hq
        rw [List.take_add_one, List.take_add_one, HT.out, List.getElem?_eq_getElem hj, List.getElem?_eq_getElem hjB, of_decide_eq_true hq])
      have HTf := Lib.hid (show q = false → r = false from fun h => by
        rw [h] at hq
        rw [Hr.out]
        exact decide_eq_false (fun e => of_decide_eq_false hq (by subst e; rfl)))
      clear hc1 hc2 hq
      generalize A[j] = x1 at *
      generalize B[j] = x2 at *
      cases q with
      | true =>
        go_wp2_with fail
        go_quiet (fail)
        have HB2 := Lib.hid (below_drewN HB.out nq)
        go_wp2_with fail
        go_roundg (gk - 1)
        case measure => omega
        case rel => exact ⟨j + 1, by omega, by go_num, Lib.hid (by first | exact HTn.out rfl | exact HTn.out trivial), HB2⟩
      | false =>
        go_wp2_with fail
        go_quiet (fail)
        have HB2 := Lib.hid (below_drewN HB.out nq)
        go_wp2_with fail
        go_ret
        rw [show r = false from by first | exact HTf.out rfl | exact HTf.out trivial]
        exact ⟨rfl, HB2.out⟩
    · have hjI : ¬ (j : Int) < (A.length : Int) := by omega
      have HE := Lib.hid (show r = true from by
        rw [Hr.out]
        have := HT.out
        rw [List.take_of_length_le (by omega), List.take_of_length_le (by omega)] at this
        exact decide_eq_true this)
      go_wp2_with fail
      go_ret
      rw [HE.out]
      exact ⟨rfl, HB.out⟩
theorem getL_at : ∀ (L : List En) (j : Nat) (hj : j < L.length), (L.map (·.1)).Nodup → getL L L[j].1 = (L[j].2, true) := fun L j hj nd => by
  have hw : whereL L L[j].1 = some j := whereL_some hj rfl (fun i hi hij he => by
    have h1 : (L.map (·.1))[i]'(by simpa using hi) = (L.map (·.1))[j]'(by simpa using hj) := by simpa using he
    exact (List.pairwise_iff_getElem.1 nd) i j (by simpa using hi) (by simpa using hj) hij h1)
  unfold getL
  rw [hw]
  simp [List.getD_eq_getElem?_getD, List.getElem?_eq_getElem hj]
set_option maxRecDepth 100000 in
set_option maxHeartbeats 2000000 in
/-- Are a store's entries these? -/
theorem has_any {T : Nat → Prop} {b d : Nat} {nm : ByteArray} {m : Int} {L : List En} {w : World} (st : St T b d nm m L w) (nd : (L.map (·.1)).Nodup) (hl : L.length ≤ 1048576) (L2 : List En) (u : Value) (hu : LAt 2 enV w u L2) (hl2 : L2.length ≤ 1048576) :
    Calls Try.prog 14 #[.pointer (some ⟨b, 0, none⟩), u] w fun e w' => e = .returned (.bool (decide (L = L2))) ∧ Below w.heap.size w w' := by
  obtain ⟨r, hr⟩ : ∃ r, r = decide (L = L2) := ⟨_, rfl⟩
  rw [← hr]
  have Hr := Lib.hid hr
  clear hr
  have HKe := Lib.hid (keys_any st (by omega))
  have HRk := Lib.hid (fun w1 (hB : Below w.heap.size w w1) => refKeys_any L2 u w1 (hu.below hB) (by omega))
  have HGt := Lib.hid (fun w1 (hB : Below w.heap.size w w1) k => get_any (st.below hB) (by omega) k)
  have HSm := Lib.hid (fun w1 u1 u2 (h1 : Strs w1 u1 (L.map (·.1))) (h2 : Strs w1 u2 (L2.map (·.1))) => sameS_any u1 u2 _ _ w1 h1 h2 (by rw [List.length_map]; omega) (by rw [List.length_map]; omega))
  have HND := Lib.hid nd
  obtain ⟨p, c, rfl, hp⟩ := gen_shape hu
  have HL := Lib.hid hu
  clear st nd hu
  obtain ⟨q, hq⟩ : ∃ q, decide (L.map (·.1) = L2.map (·.1)) = q := ⟨_, rfl⟩
  rw [hq] at HSm
  have HQ := Lib.hid hq
  clear hq
  go_enter Try.func14, Try.ntmps14
  go_wp2_with fail
  refine HKe.out.mono ?_
  rintro e w1 ⟨u1, rfl, ho1, hB1⟩
  have HB1 := Lib.hid hB1
  have HO1 := Lib.hid ho1
  have HR1 := Lib.hid (HRk.out w1 hB1)
  clear ho1 hB1 HKe
  go_wp2_with fail
  refine HR1.out.mono ?_
  rintro e w2 ⟨u2, rfl, ho2, hB2⟩
  have HB2 := Lib.hid (HB1.out.trans (hB2.mono HB1.out.size))
  have HS2 := Lib.hid (HSm.out w2 u1 u2 (Strs.ofRow (gen_own_below HO1.out hB2)) (Strs.ofRow ho2))
  clear ho2 hB2 HR1 HO1 HSm
  go_wp2_with fail
  refine HS2.out.mono ?_
  rintro e w3 ⟨rfl, hB3⟩
  have HB3 := Lib.hid (HB2.out.trans (hB3.mono HB2.out.size))
  clear hB3 HS2
  cases q with
  | false =>
    have HE := Lib.hid (show r = false from by rw [Hr.out]; exact decide_eq_false (fun e => of_decide_eq_false HQ.out (by rw [e])))
    go_wp2_with fail
    go_ret
    rw [HE.out]
    exact ⟨rfl, HB3.out⟩
  | true =>
  have hkeys := of_decide_eq_true HQ.out
  have hlen : L.length = L2.length := by have := congrArg List.length hkeys; simpa using this
  have Hkeys := Lib.hid hkeys
  clear hkeys
  go_wp2_with fail
  go_loopg [6, 7, 8, 17] L2.length (fun g _ _ _ iv wr => ∃ j : Nat, j + g = L2.length ∧ iv = .int .i64 j ∧ Hid (L.take j = L2.take j) ∧ Hid (Below w.heap.size w wr))
  case atStart => exact ⟨0, by omega, rfl, Lib.hid rfl, HB3⟩
  case round =>
    obtain ⟨j, hjg, rfl, HT, HB⟩ := hrel
    by_cases hj : j < L2.length
    · have hjI : (j : Int) < (L2.length : Int) := by omega
      have hjL : j < L.length := by omega
      obtain ⟨g0, off, rfl⟩ := hp (by omega)
      obtain ⟨x1, x2, hx⟩ : ∃ x1 x2, L2[j] = (x1, x2) := ⟨_, _, rfl⟩
      have hxi : L2[j]? = some (x1, x2) := by rw [List.getElem?_eq_getElem hj, hx]
      obtain ⟨hg, hc0, hc1⟩ := HL.out.cellsN hxi
      have e0 := (HB.out.cell (p := ⟨g0, off + j * 2, none⟩) hg).trans hc0
      have e1 := (HB.out.cell (p := ⟨g0, off + j * 2 + 1, none⟩) hg).trans hc1
      obtain ⟨hbB, hbh⟩ := box2T wr x1 x2 56
      have b0 := block_cell hbh 0
      have b1 := block_cell hbh 1
      have HB2 := Lib.hid (HB.out.trans (hbB.mono HB.out.size))
      obtain ⟨y1, y2, hy⟩ : ∃ y1 y2, L[j] = (y1, y2) := ⟨_, _, rfl⟩
      have hyx : y1 = x1 := by
        have : (L.map (·.1))[j]'(by simpa using hjL) = (L2.map (·.1))[j]'(by simpa using hj) := by simp only [Hkeys.out]
        simpa [hy, hx] using this
      have hgt := getL_at L j hjL HND.out
      rw [hy] at hgt
      dsimp only at hgt
      rw [hyx] at hgt hy
      have HG := Lib.hid (HGt.out _ HB2.out x1)
      rw [hgt] at HG
      have ke := str_eqb y2 x2
      obtain ⟨q, hq⟩ : ∃ q, decide (y2 = x2) = q := ⟨_, rfl⟩
      rw [hq] at ke
      have ken := ne_of_eqb ke
      have HTn := Lib.hid (show q = true → L.take (j + 1) = L2.take (j + 1) from fun h => by
        rw [h] at hq
        rw [List.take_add_one, List.take_add_one, HT.out, List.getElem?_eq_getElem hj, List.getElem?_eq_getElem hjL, hx, hy, of_decide_eq_true hq])
      have HTf := Lib.hid (show q = false → r = false from fun h => by
        rw [h] at hq
        rw [Hr.out]
        exact decide_eq_false (fun e => of_decide_eq_false hq (by
          subst e
          rw [hx] at hy
          exact (congrArg Prod.snd hy).symm)))
      have hbx0 := lt_of_block hbh
      have Hbh := Lib.hid hbh
      clear hx hxi hc0 hc1 hbB hbh hgt hyx hq hy
      go_upto_region 6 with fail
      generalize wr.alloc (.cells #[.string x1, .string x2] 56) = w4 at *
      clear e0 e1 hg
      go_wp2_with fail
      refine HG.out.mono ?_
      rintro e w5 ⟨rfl, hB5⟩
      have HB5 := Lib.hid (HB2.out.trans (hB5.mono HB2.out.size))
      have d1 := (hB5.cell (p := ⟨wr.heap.size, 1, none⟩) hbx0).trans b1
      clear hB5 HG b0 b1
      cases q with
      | true =>
        go_wp2_with fail
        go_roundg (gk - 1)
        case measure => omega
        case rel => exact ⟨j + 1, by omega, by go_num, Lib.hid (by first | exact HTn.out rfl | exact HTn.out trivial), HB5⟩
      | false =>
        have HE := Lib.hid (HTf.out rfl)
        go_wp2_with fail
        go_ret
        rw [HE.out]
        exact ⟨rfl, HB5.out⟩
    · have hjI : ¬ (j : Int) < (L2.length : Int) := by omega
      have HE := Lib.hid (show r = true from by
        rw [Hr.out]
        have := HT.out
        rw [List.take_of_length_le (by omega), List.take_of_length_le (by omega)] at this
        exact decide_eq_true this)
      go_wp2_with fail
      go_ret
      rw [HE.out]
      exact ⟨rfl, HB.out⟩
/-- A call. -/
structure Cl where
  kind : Int
  key : ByteArray
  val : ByteArray
  n : Int
  fuse : Int
  keep : Int
  torn : Bool
def clV (c : Cl) : List Value := [.int .i64 c.kind, .string c.key, .string c.val, .int .i64 c.n, .int .i64 c.fuse, .int .i64 c.keep, .bool c.torn]
theorem clV_len (c : Cl) : (clV c).length = 7 := rfl
def totC (S : List Cl) : Nat := (S.map fun c => c.key.size + c.val.size).sum
theorem totC_snoc (S : List Cl) (c : Cl) : totC (S ++ [c]) = totC S + (c.key.size + c.val.size) := by unfold totC; simp
theorem LAt.cellsC {w : World} {b off cap n_ : Nat} {l : List Cl} (h : LAt 7 clV w (.slice (some ⟨b, off, none⟩) n_ cap) l) {i : Nat} {c : Cl} (hx : l[i]? = some c) :
    b < w.heap.size ∧ w.cell? ⟨b, off + i * 7, none⟩ = some (.int .i64 c.kind) ∧ w.cell? ⟨b, off + i * 7 + 1, none⟩ = some (.string c.key) ∧ w.cell? ⟨b, off + i * 7 + 2, none⟩ = some (.string c.val) ∧ w.cell? ⟨b, off + i * 7 + 3, none⟩ = some (.int .i64 c.n) ∧ w.cell? ⟨b, off + i * 7 + 4, none⟩ = some (.int .i64 c.fuse) ∧ w.cell? ⟨b, off + i * 7 + 5, none⟩ = some (.int .i64 c.keep) ∧ w.cell? ⟨b, off + i * 7 + 6, none⟩ = some (.bool c.torn) := by
  obtain ⟨hl, h⟩ := h
  rcases h with ⟨p, cap, hv, rfl⟩ | ⟨b', off', cap', hv, hb, hcap, hmax, hcell⟩
  · simp at hx
  · injection hv with hv1 hv2 hv3
    injection hv1 with hv1
    injection hv1 with hv4 hv5
    subst hv4; subst hv5
    have g : ∀ j, j < 7 → ∀ z, (clV c)[j]? = some z → w.cell? ⟨b, off + i * 7 + j, none⟩ = some z := fun j hj z hz => by
      have := hcell (i * 7 + j) z (by rw [LF_at l (fun y _ => clV_len y) i _ hx j hj]; exact hz)
      rw [Nat.add_assoc]; exact this
    exact ⟨hb, g 0 (by omega) _ rfl, g 1 (by omega) _ rfl, g 2 (by omega) _ rfl, g 3 (by omega) _ rfl, g 4 (by omega) _ rfl, g 5 (by omega) _ rfl, g 6 (by omega) _ rfl⟩
def clA (c : Cl) : Array Value := #[.int .i64 c.kind, .string c.key, .string c.val, .int .i64 c.n, .int .i64 c.fuse, .int .i64 c.keep, .bool c.torn]
theorem boxC (w : World) (c : Cl) : Below w.heap.size w (w.alloc (.cells (clA c) 36)) ∧ (w.alloc (.cells (clA c) 36)).heap[w.heap.size]? = some (.cells (clA c) 36 (0, 0)) :=
  ⟨(Below.refl w.heap.size w).alloc (Nat.le_refl _) _, heap_alloc_new w _⟩
def GreatEnd (S : List Cl) (w : World) (e : Ending) (w' : World) : Prop := ∃ r, e = .returned (.bool r) ∧ (r = false → S.length ≤ 60 ∧ totC S ≤ 4096) ∧ Below w.heap.size w w'
theorem GreatEnd.yes {S : List Cl} {w w' : World} (hB : Below w.heap.size w w') : GreatEnd S w (.returned (.bool true)) w' := ⟨true, rfl, (fun h => by cases h), hB⟩
theorem GreatEnd.no {S : List Cl} {w w' : World} (hB : Below w.heap.size w w') (h1 : S.length ≤ 60) (h2 : totC S ≤ 4096) : GreatEnd S w (.returned (.bool false)) w' := ⟨false, rfl, fun h => ⟨h1, h2⟩, hB⟩
set_option maxRecDepth 100000 in
set_option maxHeartbeats 2000000 in
/-- More than is played? -/
theorem great_any (S : List Cl) (u : Value) (w : World) (hu : LAt 7 clV w u S) (hl : S.length ≤ 9223372036854775807) (hz : ∀ c ∈ S, c.key.size ≤ 140737488351232 ∧ c.val.size ≤ 140737488351232) :
    Calls Try.prog 10 #[u] w (GreatEnd S w) := by
  obtain ⟨p, c, rfl, hp⟩ := gen_shape hu
  have HL := Lib.hid hu
  have HZ := Lib.hid hz
  clear hu hz
  go_enter Try.func10, Try.ntmps10
  go_wp2_with fail
  go_loopg [3, 5, 8] S.length (fun g nv _ iv wr => ∃ j nn : Nat, j + g = S.length ∧ iv = .int .i64 j ∧ nv = .int .i64 nn ∧ nn ≤ 4096 ∧ Hid (nn = totC (S.take j)) ∧ Hid (Below w.heap.size w wr))
  case atStart => exact ⟨0, 0, by omega, rfl, rfl, by omega, Lib.hid rfl, Lib.hid (Below.refl _ _)⟩
  case round =>
    obtain ⟨j, nn, hjg, rfl, rfl, hn4, HN, HB⟩ := hrel
    by_cases hj : j < S.length
    · have hjI : (j : Int) < (S.length : Int) := by omega
      obtain ⟨g0, off, rfl⟩ := hp (by omega)
      obtain ⟨x, hx⟩ : ∃ x, x = S[j] := ⟨_, rfl⟩
      have hxi : S[j]? = some x := by rw [List.getElem?_eq_getElem hj, hx]
      obtain ⟨hg, q0, q1, q2, q3, q4, q5, q6⟩ := HL.out.cellsC hxi
      have e0 := (HB.out.cell (p := ⟨g0, off + j * 7, none⟩) hg).trans q0
      have e1 := (HB.out.cell (p := ⟨g0, off + j * 7 + 1, none⟩) hg).trans q1
      have e2 := (HB.out.cell (p := ⟨g0, off + j * 7 + 2, none⟩) hg).trans q2
      have e3 := (HB.out.cell (p := ⟨g0, off + j * 7 + 3, none⟩) hg).trans q3
      have e4 := (HB.out.cell (p := ⟨g0, off + j * 7 + 4, none⟩) hg).trans q4
      have e5 := (HB.out.cell (p := ⟨g0, off + j * 7 + 5, none⟩) hg).trans q5
      have e6 := (HB.out.cell (p := ⟨g0, off + j * 7 + 6, none⟩) hg).trans q6
      have hxz := HZ.out x (by rw [hx]; exact List.getElem_mem hj)
      have HT := Lib.hid (show totC (S.take (j + 1)) = totC (S.take j) + (x.key.size + x.val.size) from by
        rw [List.take_add_one, hxi]; exact totC_snoc _ _)
      have HB2 := Lib.hid (HB.out.trans ((boxC wr x).1.mono HB.out.size))
      clear hx hxi q0 q1 q2 q3 q4 q5 q6
      obtain ⟨kd, key, val, n, fu, kp, tn⟩ := x
      unfold clA at HB2
      dsimp only at e0 e1 e2 e3 e4 e5 e6 hxz HT HB2
      by_cases hbig : 4096 < nn + (key.size + val.size)
      · have hbI : (4096 : Int) < (nn : Int) + ((key.size : Int) + (val.size : Int)) := by omega
        go_wp2_with fail
        go_ret
        exact GreatEnd.yes HB2.out
      · have hbI : ¬ (4096 : Int) < (nn : Int) + ((key.size : Int) + (val.size : Int)) := by omega
        go_wp2_with fail
        go_roundg (gk - 1)
        case measure => omega
        case rel => exact ⟨j + 1, nn + (key.size + val.size), by omega, by go_num, by go_num, by omega, Lib.hid (by rw [HT.out, HN.out]), HB2⟩
    · obtain rfl : j = S.length := by omega
      have hjI : ¬ (S.length : Int) < (S.length : Int) := by omega
      have HE := Lib.hid (show nn = totC S from by have := HN.out; rwa [List.take_length] at this)
      by_cases h60 : 60 < S.length
      · have h60I : (60 : Int) < (S.length : Int) := by omega
        go_wp2_with fail
        go_ret
        exact GreatEnd.yes HB.out
      · have h60I : ¬ (60 : Int) < (S.length : Int) := by omega
        go_wp2_with fail
        go_ret
        exact GreatEnd.no HB.out (by omega) (by rw [← HE.out]; exact hn4)
end Go.Proofs.Ytbdlmdmbaajcmaa
