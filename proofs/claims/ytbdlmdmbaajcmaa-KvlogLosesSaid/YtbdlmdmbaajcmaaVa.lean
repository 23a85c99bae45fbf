/- The statement KvlogFull. -/
import Derived.Test.YtbdlmdmbaajcmaaZy
namespace Go.Proofs.Ytbdlmdmbaajcmaa
set_option linter.unusedVariables false
set_option linter.unusedSimpArgs false
open Go.ChangeShapes Go.WideShapes Go.ChangeAt Go.RowKit

theorem tot_mem : ∀ (S : List Cl), ∀ c ∈ S, c.key.size + c.val.size ≤ totC S
  | [], c, h => by cases h
  | a :: S, c, h => by
    have hs : totC (a :: S) = (a.key.size + a.val.size) + totC S := by unfold totC; simp
    rcases List.mem_cons.1 h with rfl | h
    · omega
    · have := tot_mem S c h; omega
set_option maxRecDepth 100000 in
set_option maxHeartbeats 8000000 in
theorem full_walk (room : Int) (u : Value) (S : List Cl) (w : World) (hS : LAt 7 clV w u S) (zS : ∀ c ∈ S, c.key.size ≤ 140737488351232 ∧ c.val.size ≤ 140737488351232) (lS : S.length ≤ 9223372036854775807) :
    Calls Try.prog 6 #[.int .i64 room, u] w fun e w' => e = .returned (.bool true) ∧ Below w.heap.size w w' := by
  have HA := Lib.hid (alive_any w)
  have HG0 := Lib.hid (fun w1 (hB : Below w.heap.size w w1) => great_any S u w1 (hS.below hB) lS zS)
  obtain ⟨p, c, rfl, hp⟩ := gen_shape hS
  have HqS := Lib.hid hS
  clear hS zS
  by_cases hr0 : room < 0
  · go_enter Try.func6, Try.ntmps6
    go_wp2_with fail
    refine HA.out.mono ?_
    rintro e w1 ⟨rfl, hB⟩
    have HG := Lib.hid (HG0.out w1 hB)
    have HB := Lib.hid hB
    clear hB HG0 HA
    go_wp2_with fail
    refine HG.out.mono ?_
    rintro e w2 ⟨r, rfl, hr, hB⟩
    have HB2 := Lib.hid (HB.out.trans (hB.mono HB.out.size))
    clear hr hB HG
    cases r
    all_goals
      go_wp2_with fail
      go_ret
      exact ⟨rfl, HB2.out⟩
  by_cases hr1 : 4096 < room
  · go_enter Try.func6, Try.ntmps6
    go_wp2_with fail
    refine HA.out.mono ?_
    rintro e w1 ⟨rfl, hB⟩
    have HG := Lib.hid (HG0.out w1 hB)
    have HB := Lib.hid hB
    clear hB HG0 HA
    go_wp2_with fail
    refine HG.out.mono ?_
    rintro e w2 ⟨r, rfl, hr, hB⟩
    have HB2 := Lib.hid (HB.out.trans (hB.mono HB.out.size))
    clear hr hB HG
    cases r
    all_goals
      go_wp2_with fail
      go_ret
      exact ⟨rfl, HB2.out⟩
  go_enter Try.func6, Try.ntmps6
  go_wp2_with fail
  refine HA.out.mono ?_
  rintro e w1 ⟨rfl, hB⟩
  have HG := Lib.hid (HG0.out w1 hB)
  have HB := Lib.hid hB
  clear hB HG0 HA
  go_wp2_with fail
  refine HG.out.mono ?_
  rintro e w2 ⟨r, rfl, hr, hB⟩
  have HB2 := Lib.hid (HB.out.trans (hB.mono HB.out.size))
  clear hB HG HB
  cases r with
  | true =>
    go_wp2_with fail
    go_ret
    exact ⟨rfl, HB2.out⟩
  | false =>
  obtain ⟨h60, h4096⟩ := hr rfl
  have HTot := Lib.hid (fun c hc => show c.key.size + c.val.size ≤ 4096 from Nat.le_trans (tot_mem S c hc) h4096)
  have HN := Lib.hid (cNew room w2)
  clear hr h4096
  go_wp2_with fail
  refine HN.out.mono ?_
  rintro e w3 ⟨rfl, hd, hB⟩
  have HO := Lib.hid (start_duo (by omega) (by omega) hd hB.size 20 (by decide))
  have HB3 := Lib.hid hB
  unfold kN at HO
  clear hd hB HN
  go_wp2_with fail
  refine HO.out.mono ?_
  rintro e w4 ⟨b0, rfl, hs, hB⟩
  have HB4 := Lib.hid (HB3.out.trans hB)
  have HS0 := Lib.hid hs
  have hws := HB2.out.size
  have HSo0 := Lib.hid (start_sol room (by omega) (by omega) kN)
  clear hs hB HO HB3
  generalize w2.heap.size + 1 = d at *
  go_wp2_with fail
  go_loopg [6, 9, 10, 12, 13, 14, 15, 16, 17, 18, 19, 43] S.length (fun g sv _ _ _ _ _ _ _ _ _ _ iv wr => ∃ (j b : Nat) (L : List En) (h : Hd) (A : List Ab) (z : Nat), j + g = S.length ∧ iv = .int .i64 j ∧ sv = .pointer (some ⟨b, 0, none⟩) ∧ Hid (Bd j L) ∧ Hid ((L.length : Int) ≤ 20) ∧ Hid (Sol room (3 * j) kN h A L z) ∧ Hid (Duo w2.heap.size b d kN 20 h A L wr) ∧ Hid (Below w2.heap.size w2 wr))
  case atStart => exact ⟨0, b0, [], newH room, [], 0, by omega, rfl, rfl, Lib.hid ⟨by simp, by simp, by simp⟩, Lib.hid (by simp), HSo0, HS0, HB4⟩
  case round =>
    obtain ⟨j, b, L, h, A, z, hjg, rfl, rfl, HBd, HL20, HSo, HDu, HBr⟩ := hrel
    by_cases hj : j < S.length
    case neg =>
      have hjI : ¬ (j : Int) < (S.length : Int) := by omega
      have HE := Lib.hid (show Below w.heap.size w wr from HB2.out.trans (HBr.out.mono hws))
      go_wp2_with fail
      go_ret
      exact ⟨rfl, HE.out⟩
    have hjI : (j : Int) < (S.length : Int) := by omega
    have HBw := Lib.hid (show Below w.heap.size w wr from HB2.out.trans (HBr.out.mono hws))
    have hbs := HBr.out.size
    obtain ⟨g0, off, rfl⟩ := hp (by omega)
    obtain ⟨x, hx⟩ : ∃ x, x = S[j] := ⟨_, rfl⟩
    have hxi : S[j]? = some x := by rw [List.getElem?_eq_getElem hj, hx]
    obtain ⟨hg, q0, q1, q2, q3, q4, q5, q6⟩ := HqS.out.cellsC hxi
    have e0 := (HBw.out.cell (p := ⟨g0, off + j * 7, none⟩) hg).trans q0
    have e1 := (HBw.out.cell (p := ⟨g0, off + j * 7 + 1, none⟩) hg).trans q1
    have e2 := (HBw.out.cell (p := ⟨g0, off + j * 7 + 2, none⟩) hg).trans q2
    have e3 := (HBw.out.cell (p := ⟨g0, off + j * 7 + 3, none⟩) hg).trans q3
    have e4 := (HBw.out.cell (p := ⟨g0, off + j * 7 + 4, none⟩) hg).trans q4
    have e5 := (HBw.out.cell (p := ⟨g0, off + j * 7 + 5, none⟩) hg).trans q5
    have e6 := (HBw.out.cell (p := ⟨g0, off + j * 7 + 6, none⟩) hg).trans q6
    have hxz := HTot.out x (by rw [hx]; exact List.getElem_mem hj)
    clear q0 q1 q2 q3 q4 q5 q6 hx hxi
    have Hsz := Lib.hid (show x.key.size ≤ 4096 ∧ x.val.size ≤ 4096 from ⟨by omega, by omega⟩)
    obtain ⟨hbB, hbh⟩ := boxC wr x
    have HBx := Lib.hid (HBr.out.trans (hbB.mono hbs))
    have HKy := Lib.hid (keys_duo (HDu.out.below hbB) HBd.out (by omega))
    have HGt := Lib.hid (fun w9 (h9 : Below wr.heap.size wr w9) key => get_duo (HDu.out.below h9) HBd.out (by omega) key)
    have Hbox := Lib.hid hbh
    have Hbw := Lib.hid hbB
    have Hbl := Lib.hid (lt_of_block hbh)
    clear hbB hbh hxz
    obtain ⟨kd, key, val, nn, fu, kp, tn⟩ := x
    unfold clA at Hbox Hbw HKy HBx Hbl
    dsimp only at e0 e1 e2 e3 e4 e5 e6 Hbox Hbw HKy HBx Hbl
    go_upto_region 13 with fail
    generalize wr.alloc (.cells #[.int .i64 kd, .string key, .string val, .int .i64 nn, .int .i64 fu, .int .i64 kp, .bool tn] 36) = wa at *
    clear e0 e1 e2 e3 e4 e5 e6 hg
    go_wp2_with fail
    refine HKy.out.mono ?_
    rintro e wb ⟨u1, rfl, ho1, hB1⟩
    dsimp only
    have hst : Strs wb u1 (L.map (·.1)) := Strs.ofRow ho1
    obtain ⟨p1, c1, hu1⟩ := strs_shape5 hst
    rw [List.length_map] at hu1
    have HB5 := Lib.hid hB1
    have HWb := Lib.hid (Hbw.out.trans (hB1.mono Hbw.out.size))
    subst hu1
    obtain ⟨hjk, hq1⟩ := strs_cells hst
    clear hjk
    have Hq1 := Lib.hid hq1
    have Hll := Lib.hid (show (L.map (·.1)).length = L.length from List.length_map ..)
    have hl20 : L.length ≤ 20 := by have := HL20.out; omega
    have HDu0 := HDu
    clear ho1 hB1 HKy hq1 hst
    obtain ⟨gko, rfl⟩ : ∃ g, g = gk := ⟨_, rfl⟩
    obtain ⟨wo, rfl⟩ : ∃ x, x = wr := ⟨_, rfl⟩
    go_wp2_with fail
    go_loopg [10, 12, 13, 14, 50] L.length (fun g v _ _ _ iv wr => ∃ i : Nat, i + g = L.length ∧ iv = .int .i64 i ∧ Hid (wr.ownsRow wb.heap.size 56 2 v (L.take i).length (LF enV (L.take i))) ∧ Hid (Below wb.heap.size wb wr))
    case atStart => exact ⟨0, by omega, rfl, Lib.hid ⟨by simp [LF], .inl ⟨rfl, rfl⟩⟩, Lib.hid (Below.refl _ _)⟩
    case round =>
      obtain ⟨i, hig, rfl, HO, HBb⟩ := hrel
      by_cases hi : i < L.length
      · have hiI : (i : Int) < (L.length : Int) := by omega
        obtain ⟨_, _, g1, o1, rfl, hg1, hc1⟩ := Hq1.out (by rw [Hll.out]; omega)
        have d1 := (HBb.out.cell (p := ⟨g1, o1 + i, none⟩) hg1).trans (hc1 i (by rw [Hll.out]; exact hi))
        rw [List.getElem_map] at d1
        have hgt := getL_at L i hi HBd.out.nd
        have HG := Lib.hid (HGt.out _ (HWb.out.trans (HBb.out.mono HWb.out.size)) L[i].1)
        rw [hgt] at HG
        have HTk := Lib.hid (show L.take (i + 1) = L.take i ++ [(L[i].1, L[i].2)] from by rw [List.take_add_one, List.getElem?_eq_getElem hi]; rfl)
        have hG0l : (L.take i).length ≤ 20 := by rw [List.length_take]; omega
        obtain ⟨G0, hG0⟩ : ∃ G0, G0 = L.take i := ⟨_, rfl⟩
        rw [← hG0] at HO hG0l HTk
        clear hc1 hgt hG0 hg1
        generalize L[i].1 = k1 at *
        generalize L[i].2 = v1 at *
        go_wp2_with fail
        refine HG.out.mono ?_
        rintro e wc ⟨rfl, hB⟩
        have HO3 := Lib.hid (gen_own_below HO.out hB)
        have HB3 := Lib.hid (HBb.out.trans (hB.mono HBb.out.size))
        have hsz3 := HB3.out.size
        clear hB HG d1
        go_wp2_with (at_builtin; go_must (refine wpList_append_gen eltR rfl (.tmp 60) (.tmp 64) rfl rfl wb.heap.size _ G0 rfl (gen_own_below HO3.out ((Below.refl wc.heap.size wc).alloc (Nat.le_refl _) (.cells #[.string k1, .string v1] 56))) _ [(k1, v1)] (LAt.block rfl rfl (heap_alloc_new wc (.cells #[.string k1, .string v1] 56))) rfl (by simp only [List.length_cons, List.length_nil]; omega) (by unfold maxLen; simp only [List.length_cons, List.length_nil]; omega) (by simp; omega) ?_); intro v4 w4 hown4 hgrow4)
        have HB6 := Lib.hid ((HB3.out.trans (((Below.refl wc.heap.size wc).alloc (Nat.le_refl _) (.cells #[.string k1, .string v1] 56)).mono HB3.out.size)).grown hgrow4 (by simp; omega) (fun k hk => (HO3.out.lt k hk).1))
        go_roundg (gk - 1)
        case measure => omega
        case rel =>
          refine ⟨i + 1, by omega, by go_num, Lib.hid ?_, HB6⟩
          rw [HTk.out]
          exact hown4
      · obtain rfl : i = L.length := by omega
        have hiI : ¬ (L.length : Int) < (L.length : Int) := by omega
        have ho := HO.out
        rw [List.take_length] at ho
        have hrow : RowL (fun q => wb.heap.size ≤ q ∧ q < wr.heap.size) L _ wr := ⟨_, ho, fun g hg => ⟨(ownG_lt ho g hg).2.1, (ownG_lt ho g hg).1⟩⟩
        obtain ⟨p2, c2, hv2⟩ := hrow.slice
        have HRow := Lib.hid hrow
        subst hv2
        have HWr := Lib.hid (HWb.out.trans (HBb.out.mono HWb.out.size))
        have HWa := Lib.hid (HB5.out.trans (HBb.out.mono HB5.out.size))
        have hbm := (Below.refl wr.heap.size wr).alloc (Nat.le_refl _) (.cells (rsA 20 (.slice p2 L.length c2) 0) 34)
        have hsm : (wr.alloc (.cells (rsA 20 (.slice p2 L.length c2) 0) 34)).heap.size = wr.heap.size + 1 := by simp
        have Hbm := Lib.hid hbm
        have HRm := Lib.hid (hrow.below hbm)
        have HNm := Lib.hid (heap_alloc_new wr (.cells (rsA 20 (.slice p2 L.length c2) 0) 34))
        have Hsm := Lib.hid hsm
        clear ho hrow HO hbm hsm
        unfold rsA at Hbm HRm HNm Hsm
        go_upto_region 20 with fail
        generalize wr.alloc (.cells #[.int .i64 20, .slice p2 L.length c2, .int .i64 0] 34) = wm at *
        obtain ⟨b2, hb2⟩ : ∃ b2, b2 = wr.heap.size := ⟨_, rfl⟩
        rw [← hb2] at HNm ⊢
        have Hb2 := Lib.hid hb2
        have HWm := Lib.hid (HWr.out.trans (Hbm.out.mono HWr.out.size))
        have HRs := Lib.hid (show Rs (fun q => wo.heap.size ≤ q ∧ q < wm.heap.size) b2 20 L 0 wm from ⟨⟨_, HNm.out, HRm.out.mono (fun q hq => ⟨by have := HWb.out.size; omega, by have := Hbm.out.size; omega⟩)⟩, by rw [hb2]; exact ⟨HWr.out.size, by rw [Hsm.out]; omega⟩⟩)
        clear hb2
        have HDo := Lib.hid (does_new HDu.out HWm.out HRs.out hbs HSo.out (by omega) kN_good kN_new (HBd.out.mono (by omega)) (HBd.out.mono (by omega)) (by decide) (by decide) (by decide) ⟨kd, key, val, nn, fu, kp, tn⟩ Hsz.out.1 Hsz.out.2 1048576)
        have H6 := Lib.hid (fun h => ref_six (L := L) (m := 20) (z := z) (f := room - z) (c := ⟨kd, key, val, nn, fu, kp, tn⟩) h)
        have HSame := Lib.hid (fun h => ref_same (L := L) (m := 20) (z := z) (f := room - z) (z2 := 0) (f2 := 1048576) (c := ⟨kd, key, val, nn, fu, kp, tn⟩) h (fits HBd.out hl20 Hsz.out.1 Hsz.out.2 (by decide)))
        have HBd1 := Lib.hid (ref_bd HBd.out 20 z (room - z) ⟨kd, key, val, nn, fu, kp, tn⟩ Hsz.out.1 Hsz.out.2)
        have HL1 := Lib.hid (ref_len (fun e he => (HBd.out.s e he).1) 20 z (room - z) ⟨kd, key, val, nn, fu, kp, tn⟩ (by decide) HL20.out Hsz.out.1 Hsz.out.2)
        generalize refOut L 20 z (room - z) ⟨kd, key, val, nn, fu, kp, tn⟩ = o1 at *
        generalize refOut L 20 0 1048576 ⟨kd, key, val, nn, fu, kp, tn⟩ = o2 at *
        obtain ⟨e1, L1, y1⟩ := o1
        obtain ⟨e2, L2, y2⟩ := o2
        unfold cA clA at HDo
        try dsimp only at HDo H6 HSame HBd1 HL1
        have hwam := HWa.out.trans (Hbm.out.mono HWa.out.size)
        have q0 := block_cell ((hwam.block wo.heap.size Hbl.out).trans Hbox.out) 0
        have q1 := block_cell ((hwam.block wo.heap.size Hbl.out).trans Hbox.out) 1
        have q2 := block_cell ((hwam.block wo.heap.size Hbl.out).trans Hbox.out) 2
        have q3 := block_cell ((hwam.block wo.heap.size Hbl.out).trans Hbox.out) 3
        have q4 := block_cell ((hwam.block wo.heap.size Hbl.out).trans Hbox.out) 4
        have q5 := block_cell ((hwam.block wo.heap.size Hbl.out).trans Hbox.out) 5
        have q6 := block_cell ((hwam.block wo.heap.size Hbl.out).trans Hbox.out) 6
        clear hwam
        go_wp2_with fail
        refine HDo.out.mono ?_
        rintro e wd ⟨rfl, ⟨h2, A2, z3, X, hdu, hrs, hX, hsol⟩, hB, hkeep⟩
        try dsimp only at hdu hrs hsol
        have HDu2 := Lib.hid hdu
        have HRs2 := Lib.hid hrs
        have HX := Lib.hid hX
        have HSol := Lib.hid hsol
        have HBd2 := Lib.hid (HBr.out.trans ((HWm.out.mono hbs).trans hB))
        have HKeep := Lib.hid hkeep
        clear q0 q1 q2 q3 q4 q5 q6 hdu hrs hX hsol hB hkeep HDo
        by_cases h6 : e1 = 6
        · have HL6 := Lib.hid (show L1 = L from H6.out h6)
          subst h6
          obtain ⟨lv, hbx, hrow2⟩ := HRs2.out.f
          obtain ⟨p3, c3, hlv⟩ := hrow2.slice
          subst hlv
          have d1 := block_cell hbx 1
          rw [show (rsA 20 (.slice p3 L2.length c3) y2)[1]? = some (.slice p3 L2.length c3) from rfl] at d1
          have f1 := block_free hbx 1
          have hrv : RowL X L (.slice p2 L.length c2) wd := by
            obtain ⟨bb, r1, r2⟩ := HRm.out.f
            exact ⟨bb, ownG_same r1 (fun g hg => HKeep.out g (by have := (r2 g hg).1; have := HWb.out.size; omega) (ownG_lt r1 g hg).1 (by have := (r2 g hg).2; rw [Hb2.out]; omega)), fun g hg => HX.out g (by have := (r2 g hg).1; have := HWb.out.size; omega) (ownG_lt r1 g hg).1⟩
          have HRs3 := Lib.hid (show Rs X b2 20 L1 y2 (wd.setCell ⟨b2, 1, none⟩ (.slice p2 L.length c2)) from by rw [HL6.out]; exact Rs.list hbx hrv HRs2.out.t)
          have HDu3 := Lib.hid (HDu2.out.poke (i := 1) (v := .slice p2 L.length c2) HRs2.out.t)
          have HBd3 := Lib.hid (show Below w2.heap.size w2 (wd.setCell ⟨b2, 1, none⟩ (.slice p2 L.length c2)) from HBd2.out.setCell (p := ⟨b2, 1, none⟩) (HDu2.out.x b2 HRs2.out.t).1 _)
          clear hbx hrow2 hrv
          go_upto_region 23 with fail
          generalize wd.setCell ⟨b2, 1, none⟩ (.slice p2 L.length c2) = we at *
          clear d1 f1
          obtain ⟨lv3, hbx3, hrow3⟩ := HRs3.out.f
          obtain ⟨p4, c4, hlv4⟩ := hrow3.slice
          subst hlv4
          have d1 := block_cell hbx3 1
          rw [show (rsA 20 (.slice p4 L1.length c4) y2)[1]? = some (.slice p4 L1.length c4) from rfl] at d1
          have hbe := HBd3.out.size
          have HH := Lib.hid (has_duo HDu3.out.duo HBd1.out (by omega) hrow3.lat (by have := HBd1.out.l; omega))
          rw [decide_eq_true (show L1 = L1 from rfl)] at HH
          clear hbx3 hrow3
          go_wp2_with fail
          refine HH.out.mono ?_
          rintro e wf ⟨rfl, hB⟩
          have HDu4 := Lib.hid (HDu3.out.below hB)
          have HRs4 := Lib.hid (HRs3.out.below hB)
          have HBd4 := Lib.hid (HBd3.out.trans (hB.mono hbe))
          clear hB HH d1 HRs3 HDu3
          have hbf := HBd4.out.size
          have HOp := Lib.hid (open_x HDu4.out hbf HSol.out (by omega) kN_good kN_new (by decide))
          unfold kN at HOp
          go_wp2_with fail
          refine HOp.out.mono ?_
          rintro e wg ⟨b3, rfl, hdu, hB, hsame⟩
          have HDu5 := Lib.hid hdu
          have hrs5 := HRs4.out.same hsame
          have HBd5 := Lib.hid (HBd4.out.trans hB)
          obtain ⟨lv5, hbx5, hrow5⟩ := hrs5.f
          obtain ⟨p6, c6, hlv6⟩ := hrow5.slice
          subst hlv6
          have d1 := block_cell hbx5 1
          rw [show (rsA 20 (.slice p6 L1.length c6) y2)[1]? = some (.slice p6 L1.length c6) from rfl] at d1
          have HH := Lib.hid (has_duo hdu.duo HBd1.out (by omega) hrow5.lat (by have := HBd1.out.l; omega))
          rw [decide_eq_true (show L1 = L1 from rfl)] at HH
          have hbg := HBd5.out.size
          clear hbx5 hrow5 hrs5 hdu hB hsame HOp
          go_wp2_with fail
          refine HH.out.mono ?_
          rintro e wh ⟨rfl, hB⟩
          have HDu6 := Lib.hid (HDu5.out.duo.below hB)
          have HBd6 := Lib.hid (HBd5.out.trans (hB.mono hbg))
          clear hB HH d1
          go_wp2_with fail
          go_roundg (gko - 1)
          case measure => omega
          case rel => exact ⟨j + 1, b3, L1, h2, A2, z3, by omega, by go_num, rfl, HBd1, HL1, Lib.hid (HSol.out.more (by omega)), HDu6, HBd6⟩
        · have HL6 := Lib.hid (show L2 = L1 from HSame.out h6)
          have k6 : (e1 == 6) = false := beq_eq_false_iff_ne.2 h6
          have HRs3 := Lib.hid (show Rs X b2 20 L1 y2 wd from by rw [← HL6.out]; exact HRs2.out)
          have HDu3 := HDu2
          have HBd3 := HBd2
          clear h6
          go_upto_region 23 with fail
          clear k6
          obtain ⟨we, rfl⟩ : ∃ x, x = wd := ⟨_, rfl⟩
          obtain ⟨lv3, hbx3, hrow3⟩ := HRs3.out.f
          obtain ⟨p4, c4, hlv4⟩ := hrow3.slice
          subst hlv4
          have d1 := block_cell hbx3 1
          rw [show (rsA 20 (.slice p4 L1.length c4) y2)[1]? = some (.slice p4 L1.length c4) from rfl] at d1
          have hbe := HBd3.out.size
          have HH := Lib.hid (has_duo HDu3.out.duo HBd1.out (by omega) hrow3.lat (by have := HBd1.out.l; omega))
          rw [decide_eq_true (show L1 = L1 from rfl)] at HH
          clear hbx3 hrow3
          go_wp2_with fail
          refine HH.out.mono ?_
          rintro e wf ⟨rfl, hB⟩
          have HDu4 := Lib.hid (HDu3.out.below hB)
          have HRs4 := Lib.hid (HRs3.out.below hB)
          have HBd4 := Lib.hid (HBd3.out.trans (hB.mono hbe))
          clear hB HH d1 HRs3 HDu3
          have hbf := HBd4.out.size
          have HOp := Lib.hid (open_x HDu4.out hbf HSol.out (by omega) kN_good kN_new (by decide))
          unfold kN at HOp
          go_wp2_with fail
          refine HOp.out.mono ?_
          rintro e wg ⟨b3, rfl, hdu, hB, hsame⟩
          have HDu5 := Lib.hid hdu
          have hrs5 := HRs4.out.same hsame
          have HBd5 := Lib.hid (HBd4.out.trans hB)
          obtain ⟨lv5, hbx5, hrow5⟩ := hrs5.f
          obtain ⟨p6, c6, hlv6⟩ := hrow5.slice
          subst hlv6
          have d1 := block_cell hbx5 1
          rw [show (rsA 20 (.slice p6 L1.length c6) y2)[1]? = some (.slice p6 L1.length c6) from rfl] at d1
          have HH := Lib.hid (has_duo hdu.duo HBd1.out (by omega) hrow5.lat (by have := HBd1.out.l; omega))
          rw [decide_eq_true (show L1 = L1 from rfl)] at HH
          have hbg := HBd5.out.size
          clear hbx5 hrow5 hrs5 hdu hB hsame HOp
          go_wp2_with fail
          refine HH.out.mono ?_
          rintro e wh ⟨rfl, hB⟩
          have HDu6 := Lib.hid (HDu5.out.duo.below hB)
          have HBd6 := Lib.hid (HBd5.out.trans (hB.mono hbg))
          clear hB HH d1
          go_wp2_with fail
          go_roundg (gko - 1)
          case measure => omega
          case rel => exact ⟨j + 1, b3, L1, h2, A2, z3, by omega, by go_num, rfl, HBd1, HL1, Lib.hid (HSol.out.more (by omega)), HDu6, HBd6⟩
end Go.Proofs.Ytbdlmdmbaajcmaa
