/- The statement KvlogLoses. -/
import Derived.Test.YtbdlmdmbaajcmaaX1
namespace Go.Proofs.Ytbdlmdmbaajcmaa
set_option linter.unusedVariables false
set_option linter.unusedSimpArgs false
open Go.ChangeShapes Go.WideShapes Go.ChangeAt Go.RowKit

/-- The records, in a row that was made since. -/
structure StW (R : List ByteArray) (wc : World) (sv : Value) (wx : World) : Prop where
  o : wx.ownsRow wc.heap.size 9 1 sv R.length (R.map Value.string)
  b : Below wc.heap.size wc wx
theorem StW.nil (w : World) : StW [] w (.slice none 0 0) w := ⟨⟨by simp, .inl ⟨rfl, rfl⟩⟩, Below.refl _ _⟩
theorem fo (w0 wc wx : World) (h1 : Below w0.heap.size w0 wc) (h2 : Below wc.heap.size wc wx) : Below w0.heap.size w0 wx := h1.trans (h2.mono h1.size)
set_option maxRecDepth 100000 in
set_option maxHeartbeats 16000000 in
theorem loses_walk (most : Int) (v1 : Value) (S : List Cl) (w : World) (hS : LAt 7 clV w v1 S) (cS : ∀ c ∈ S, CIn c) (lS : S.length ≤ 9223372036854775807) :
    Calls Try.prog 4 #[.int .i64 most, v1] w fun e w' => e = .returned (.bool true) ∧ Below w.heap.size w w' := by
  have HA := Lib.hid (alive_any w)
  have HG0 := Lib.hid (fun w1 (hB : Below w.heap.size w w1) => great_any S v1 w1 (hS.below hB) lS (fun c hc => ⟨(cS c hc).a, (cS c hc).z⟩))
  obtain ⟨p, c, rfl, hp⟩ := gen_shape hS
  have HqS := Lib.hid hS
  have HcS := Lib.hid cS
  clear hS cS
  by_cases hr0 : most < 1 ∨ 100 < most
  · obtain ⟨q0, hq0⟩ : ∃ q, decide (most < 1) = q := ⟨_, rfl⟩
    obtain ⟨q1, hq1⟩ : ∃ q, decide (100 < most) = q := ⟨_, rfl⟩
    have hqq : q0 = true ∨ q1 = true := by
      rcases hr0 with h | h
      · exact .inl (by rw [← hq0]; exact decide_eq_true h)
      · exact .inr (by rw [← hq1]; exact decide_eq_true h)
    clear hr0
    cases q0 <;> cases q1
    · simp at hqq
    all_goals
      clear hqq
      go_enter Try.func4, Try.ntmps4
      go_wp2_with fail
      refine HA.out.mono ?_
      rintro e w1 ⟨rfl, hB⟩
      have HG := Lib.hid (HG0.out w1 hB)
      have HB := Lib.hid hB
      clear hB
      go_wp2_with fail
      refine HG.out.mono ?_
      rintro e w2 ⟨r, rfl, hr, hB⟩
      have HB2 := Lib.hid (HB.out.trans (hB.mono HB.out.size))
      clear hr hB HG
      cases r
      all_goals
        go_wp2_with fail
        go_ret
        exact ⟨rfl, HB2.out⟩
  have hm1 : ¬ most < 1 := fun h => hr0 (.inl h)
  have hm2 : ¬ 100 < most := fun h => hr0 (.inr h)
  clear hr0
  go_enter Try.func4, Try.ntmps4
  go_wp2_with fail
  refine HA.out.mono ?_
  rintro e w1 ⟨rfl, hB⟩
  have HG := Lib.hid (HG0.out w1 hB)
  have HB := Lib.hid hB
  clear hB HG0 HA
  go_wp2_with fail
  refine HG.out.mono ?_
  rintro e w2 ⟨r, rfl, hr, hB⟩
  have HB2 := Lib.hid (HB.out.trans (hB.mono HB.out.size))
  clear hB HG HB
  cases r with
  | true =>
    go_wp2_with fail
    go_ret
    exact ⟨rfl, HB2.out⟩
  | false =>
  obtain ⟨h60, h4096⟩ := hr rfl
  have HTo := Lib.hid h4096
  have HTot := Lib.hid (fun c hc => show c.key.size + c.val.size ≤ 4096 from Nat.le_trans (tot_mem S c hc) h4096)
  have HN := Lib.hid (cNew 1048576 w2)
  have hws := HB2.out.size
  clear hr h4096
  go_wp2_with fail
  refine HN.out.mono ?_
  rintro e w3 ⟨rfl, hd, hB⟩
  have HB3 := Lib.hid hB
  have hmm : 1 ≤ most ∧ most ≤ 4096 := by omega
  have HO := Lib.hid (start_duo (by omega) (by omega) hd hB.size most hmm)
  unfold kN at HO
  clear hd hB HN hm1 hm2
  go_wp2_with fail
  refine HO.out.mono ?_
  rintro e w4 ⟨b0, rfl, hs, hB⟩
  have HB4 := Lib.hid (HB3.out.trans hB)
  have hb4 := HB4.out.size
  obtain ⟨hx0, hst0, hbx0⟩ := start_x hs hb4
  have HX0 := Lib.hid hx0
  have HSt0 := Lib.hid hst0
  have HB5 := Lib.hid (HB4.out.trans hbx0)
  have hs1 : (w4.alloc (.cells #[.int .i64 most, .slice none 0 0, .int .i64 0] 34)).heap.size = w4.heap.size + 1 := by simp
  clear hs hB HO HB3 hx0 hst0 hbx0
  unfold rsA at HX0 HSt0 HB5
  generalize w2.heap.size + 1 = d at *
  go_upto_region 11 with fail
  try rw [hs1]
  generalize (w4.alloc (.cells #[.int .i64 most, .slice none 0 0, .int .i64 0] 34)).alloc (.cells #[.slice none 0 0] 32) = w5 at *
  obtain ⟨b2, hb2⟩ : ∃ b2, b2 = w4.heap.size := ⟨_, rfl⟩
  obtain ⟨g2, hg2⟩ : ∃ b2, b2 = w4.heap.size + 1 := ⟨_, rfl⟩
  rw [← hg2] at HSt0
  rw [← hg2] at HX0
  try rw [← hg2]
  rw [← hb2] at HX0
  try rw [← hb2]
  have Hb2 := Lib.hid hb2
  have Hg2 := Lib.hid hg2
  clear hb2 hg2 hb4 hs1
  go_wp2_with fail
  go_loopg [6, 7, 9, 11, 12, 13, 14, 15, 16, 17, 18, 20, 21, 49] S.length (fun g sv _ stv _ _ _ _ _ _ _ _ _ _ iv wr => ∃ (j b : Nat) (X : Nat → Prop) (L : List En) (Ms : List (List En)) (h : Hd) (A : List Ab) (y : Int), j + g = S.length ∧ iv = .int .i64 j ∧ sv = .pointer (some ⟨b, 0, none⟩) ∧ Hid (∀ M, M ∈ Ms → Bs j most (totC (S.take j)) M) ∧ Hid (Ms.getLast? = some L) ∧ Hid (Ms.length ≤ 1 + 100 * j) ∧ Hid (0 ≤ y ∧ y ≤ 8271 * (j : Int)) ∧ Hid (Hs A kN Ms L (8271 * j)) ∧ Hid (h.down = false ∧ h.left = 0 ∧ h.room = 1048576) ∧ Hid (DvOk (5 * j) h A) ∧ Hid (QX w2.heap.size X b d most h A L b2 L y wr) ∧ Hid (Sts X stv Ms wr) ∧ Hid (Below w2.heap.size w2 wr))
  case atStart => exact ⟨0, b0, _, [], [[]], newH 1048576, [], 0, by omega, rfl, rfl, Lib.hid (fun M hM => by rw [List.mem_singleton.1 hM]; exact ⟨⟨by simp, by simp, by simp⟩, by simp; omega, by simp [sumL]⟩), Lib.hid rfl, Lib.hid (by simp), Lib.hid (by simp), Lib.hid ⟨.inl ⟨rfl, rfl, List.mem_cons_self⟩⟩, Lib.hid ⟨rfl, rfl, rfl⟩, Lib.hid (new_ok 1048576 (by omega) (by omega)), HX0, HSt0, HB5⟩
  case round =>
    obtain ⟨j, b, X, L, Ms, h, A, y, hjg, rfl, rfl, HMs, HLa, HMl, HY, HHs, HH, HOk, HQ, HSt, HBr⟩ := hrel
    obtain ⟨gko, hgko⟩ : ∃ g, g = gk := ⟨_, rfl⟩
    obtain ⟨wo, hwo⟩ : ∃ q, q = wr := ⟨_, rfl⟩
    subst hgko hwo
    have hbs := HBr.out.size
    have HBw := Lib.hid (show Below w.heap.size w wo from HB2.out.trans (HBr.out.mono hws))
    have HL0 := Lib.hid (HMs.out L HHs.out.mem)
    by_cases hj : j < S.length
    case neg =>
      as_aux_lemma =>
        have hjI : ¬ (j : Int) < (S.length : Int) := by omega
        obtain ⟨pl, cl, hb2, hrow⟩ := HQ.out.row
        have HH1 := Lib.hid (x_has HQ.out HL0.out.b (by omega) hrow (by have := HL0.out.b.l; omega))
        rw [decide_eq_true (show L = L from rfl)] at HH1
        have d1 := block_cell hb2 1
        rw [show (rsA most (.slice pl L.length cl) y)[1]? = some (.slice pl L.length cl) from rfl] at d1
        clear hb2 hrow
        go_wp2_with fail
        refine HH1.out.mono ?_
        rintro e wf ⟨rfl, hB⟩
        have HE := Lib.hid (show Below w.heap.size w wf from HBw.out.trans (hB.mono HBw.out.size))
        clear hB d1 HH1
        go_wp2_with fail
        go_ret
        exact ⟨rfl, HE.out⟩
    have hjI : (j : Int) < (S.length : Int) := by omega
    obtain ⟨g0, off, rfl⟩ := hp (by omega)
    obtain ⟨x, hx⟩ : ∃ x, x = S[j] := ⟨_, rfl⟩
    have hxi : S[j]? = some x := by rw [List.getElem?_eq_getElem hj, hx]
    obtain ⟨hg, q0, q1, q2, q3, q4, q5, q6⟩ := HqS.out.cellsC hxi
    have e0 := (HBw.out.cell (p := ⟨g0, off + j * 7, none⟩) hg).trans q0
    have e1 := (HBw.out.cell (p := ⟨g0, off + j * 7 + 1, none⟩) hg).trans q1
    have e2 := (HBw.out.cell (p := ⟨g0, off + j * 7 + 2, none⟩) hg).trans q2
    have e3 := (HBw.out.cell (p := ⟨g0, off + j * 7 + 3, none⟩) hg).trans q3
    have e4 := (HBw.out.cell (p := ⟨g0, off + j * 7 + 4, none⟩) hg).trans q4
    have e5 := (HBw.out.cell (p := ⟨g0, off + j * 7 + 5, none⟩) hg).trans q5
    have e6 := (HBw.out.cell (p := ⟨g0, off + j * 7 + 6, none⟩) hg).trans q6
    have hxz := HTot.out x (by rw [hx]; exact List.getElem_mem hj)
    have HCx := Lib.hid (HcS.out x (by rw [hx]; exact List.getElem_mem hj))
    have HTk := Lib.hid (show totC (S.take (j + 1)) = totC (S.take j) + (x.key.size + x.val.size) from by rw [List.take_add_one, hxi]; exact totC_snoc _ _)
    clear q0 q1 q2 q3 q4 q5 q6 hx hxi
    have Hsz := Lib.hid (show x.key.size ≤ 4096 ∧ x.val.size ≤ 4096 from ⟨by omega, by omega⟩)
    have HCo := Lib.hid (cost_of HL0.out.b (by have := HL0.out.b.l; omega) HL0.out.l (Nat.le_trans HL0.out.s (tot_take S j HTo.out)) x hxz)
    obtain ⟨hbB, hbh⟩ := boxC wo x
    obtain ⟨wb, hwb⟩ : ∃ q, q = wo.alloc (.cells (clA x) 36) := ⟨_, rfl⟩
    obtain ⟨bx, hbx⟩ : ∃ q, q = wo.heap.size := ⟨_, rfl⟩
    rw [← hwb] at hbB hbh
    have HbB := Lib.hid hbB
    have HbH := Lib.hid (show wb.heap[bx]? = some (.cells (clA x) 36 (0, 0)) from by rw [hbx]; exact hbh)
    have Hbx := Lib.hid hbx
    have HMj := Lib.hid (show ∀ M, M ∈ Ms → Bs (j + 1) most (totC (S.take (j + 1))) M from fun M hM => (HMs.out M hM).more (by omega) (by rw [HTk.out]; omega))
    obtain ⟨kd, key, val, nn, fu, kp, tn⟩ := x
    try dsimp only at e0 e1 e2 e3 e4 e5 e6 hxz
    unfold clA at hwb hbh HbH
    try dsimp only at hbh
    have d0 := block_cell hbh 0
    have d1 := block_cell hbh 1
    have d2 := block_cell hbh 2
    have d3 := block_cell hbh 3
    have d4 := block_cell hbh 4
    have d5 := block_cell hbh 5
    have d6 := block_cell hbh 6
    clear hbB hbh hg
    rw [← hbx] at d0 d1 d2 d3 d4 d5 d6
    go_upto_region 14 with fail
    try rw [← hwb]
    try rw [← hbx]
    clear hwb hbx e0 e1 e2 e3 e4 e5 e6
    by_cases hk4 : kd = 4
    · as_aux_lemma =>
        have k4 : (kd == 4) = true := beq_iff_eq.2 hk4
        have HQ1 := Lib.hid (HQ.out.below HbB.out hbs)
        have HSt1 := Lib.hid (HSt.out.same (w' := wb) (X' := Gr X wo wb) (fun q hq => HbB.out.block q (HQ.out.lt q hq)) (fun q hq => .inl hq))
        have HBn := Lib.hid (HBr.out.trans (HbB.out.mono hbs))
        clear hk4 d1 d2 d3 d4 d5 d6 HQ HSt
        go_wp2_with fail
        go_roundg (gko - 1)
        case measure => omega
        case rel => exact ⟨j + 1, b, _, L, Ms, h, A, y, by omega, by go_num, rfl, HMj, HLa, Lib.hid (by have := HMl.out; omega), Lib.hid (by have := HY.out; omega), Lib.hid (HHs.out.more (fun _ h => h) (by omega)), HH, Lib.hid (HOk.out.more (by omega)), HQ1, HSt1, HBn⟩
    have k4 : (kd == 4) = false := beq_eq_false_iff_ne.2 hk4
    obtain ⟨pl, cl, hb2, hrow⟩ := HQ.out.row
    have HRow := Lib.hid hrow
    have HCpy := Lib.hid (copy_any ((HbB.out.block _ (lt_of_block hb2)).trans hb2) ⟨_, _, _, rfl⟩)
    have Hb2c := Lib.hid hb2
    clear hb2 hrow
    go_wp2_with fail
    refine HCpy.out.mono ?_
    rintro e wcp ⟨bw, rfl, hge, hB, hbw⟩
    have HbC := Lib.hid (show Below wo.heap.size wo wcp from HbB.out.trans (hB.mono HbB.out.size))
    have HbHc := Lib.hid (show wcp.heap[bx]? = some (.cells #[.int .i64 kd, .string key, .string val, .int .i64 nn, .int .i64 fu, .int .i64 kp, .bool tn] 36 (0, 0)) from (hB.block _ (lt_of_block HbH.out)).trans HbH.out)
    have HbW := Lib.hid hbw
    have Hge := Lib.hid (show wo.heap.size ≤ bw from Nat.le_trans HbB.out.size hge)
    clear hB hbw hge HCpy d0 d1 d2 d3 d4 d5 d6 k4
    have d0 := block_cell HbHc.out 0
    have d1 := block_cell HbHc.out 1
    have d2 := block_cell HbHc.out 2
    have d3 := block_cell HbHc.out 3
    have d4 := block_cell HbHc.out 4
    have d5 := block_cell HbHc.out 5
    have d6 := block_cell HbHc.out 6
    go_upto_region 17 with fail
    obtain ⟨k0b, hk0b⟩ : ∃ q, q = decide (kd = 0) := ⟨_, rfl⟩
    have Hk0 := Lib.hid hk0b
    clear hk0b
    go_cut [49, 70] from 49 to 217 (fun iv qv wx => iv = .int .i64 j ∧ qv = .bool k0b ∧ Below wcp.heap.size wcp wx)
    case first =>
      as_aux_lemma =>
        by_cases hk0 : kd = 0
        · have k0 : (kd == 0) = true := beq_iff_eq.2 hk0
          have Hkt := Lib.hid (show k0b = true from by rw [Hk0.out]; exact decide_eq_true hk0)
          have HRc := Lib.hid (fun w9 => record_any key val w9 (by have := Hsz.out.1; omega) (by have := Hsz.out.2; omega))
          have hpz : (putB (key, val)).size ≤ 65536 := by rw [putB_size]; dsimp only; omega
          generalize putB (key, val) = rc at *
          have hpzI : (rc.size : Int) ≤ 65536 := by omega
          have hpzd : decide ((rc.size : Int) ≤ 65536) = true := decide_eq_true hpzI
          clear hk0
          go_wp2_with fail
          refine (HRc.out _).mono ?_
          rintro e w9 ⟨rfl, hB⟩
          have HB9 := Lib.hid hB
          clear hB
          go_wp2_with fail
          go_meet
          exact ⟨rfl, by rw [Hkt.out], HB9.out⟩
        · have k0 : (kd == 0) = false := beq_eq_false_iff_ne.2 hk0
          have Hkf := Lib.hid (show k0b = false from by rw [Hk0.out]; exact decide_eq_false hk0)
          go_wp2_with fail
          go_meet
          exact ⟨rfl, by rw [Hkf.out], Below.refl _ _⟩
    case rest =>
    obtain ⟨rfl, rfl, hB⟩ := hcut
    obtain ⟨w8, rfl⟩ : ∃ q, q = wc := ⟨_, rfl⟩
    have HB8 := Lib.hid hB
    have HbC8 := Lib.hid (fo _ _ _ HbC.out hB)
    have HbH8 := Lib.hid ((hB.block _ (lt_of_block HbHc.out)).trans HbHc.out)
    clear hB d0 d1 d2 d3 d4 d5 d6
    have d0 := block_cell HbH8.out 0
    have d1 := block_cell HbH8.out 1
    have d2 := block_cell HbH8.out 2
    have d3 := block_cell HbH8.out 3
    have d4 := block_cell HbH8.out 4
    have d5 := block_cell HbH8.out 5
    have d6 := block_cell HbH8.out 6
    go_upto_if 70 with fail
    go_cut [13, 49] from 49 to 217 (fun sv iv wx => iv = .int .i64 j ∧ (if k0b = true then StW (stepsRs L most key val) wcp sv wx else sv = .slice none 0 0 ∧ Below wcp.heap.size wcp wx))
    case first =>
      as_aux_lemma =>
        cases k0b with
        | true =>
          have HRs8 := Lib.hid (HQ.out.below HbC8.out hbs)
          obtain ⟨TD8, TS8, pr8, _⟩ := HRs8.out.s
          have HSp := Lib.hid (steps_any pr8.rs (by have := HL0.out.b.l; omega) hmm (fun e he => by have := HL0.out.b.s e he; omega) key val (by have := Hsz.out.1; omega) (by have := Hsz.out.2; omega))
          clear pr8
          go_wp2_with fail
          refine HSp.out.mono ?_
          rintro e w9 ⟨v9, rfl, ho, hB⟩
          have HS9 := Lib.hid (show StW (stepsRs L most key val) wcp v9 w9 from ⟨ho.mono HB8.out.size, HB8.out.trans (hB.mono HB8.out.size)⟩)
          clear ho hB HSp
          go_wp2_with fail
          go_meet
          exact ⟨rfl, by simpa using HS9.out⟩
        | false =>
          go_wp2_with fail
          go_meet
          exact ⟨rfl, by rw [if_neg (by simp)]; exact ⟨rfl, HB8.out⟩⟩
    case rest =>
    obtain ⟨rfl, hif⟩ := hcut
    obtain ⟨w10, rfl⟩ : ∃ q, q = wc := ⟨_, rfl⟩
    have hB : Below wcp.heap.size wcp w10 := by
      cases k0b with
      | true => rw [if_pos rfl] at hif; exact hif.b
      | false => rw [if_neg (by simp)] at hif; exact hif.2
    have Hif := Lib.hid hif
    have HB10 := Lib.hid hB
    have HbH10 := Lib.hid ((hB.block _ (lt_of_block HbHc.out)).trans HbHc.out)
    have HR0 := Lib.hid (fun (q : kd = 0) => show recsOf L most ⟨kd, key, val, nn, fu, kp, tn⟩ = stepsRs L most key val from by unfold recsOf; rw [if_pos q])
    have HR1 := Lib.hid (fun (q : kd = 1) => show recsOf L most ⟨kd, key, val, nn, fu, kp, tn⟩ = evictRs L nn from by unfold recsOf; rw [if_neg (by show ¬ kd = 0; omega), if_pos q])
    have HR2 := Lib.hid (fun (q0 : ¬ kd = 0) (q : ¬ kd = 1) => show recsOf L most ⟨kd, key, val, nn, fu, kp, tn⟩ = [] from by unfold recsOf; rw [if_neg q0, if_neg q])
    clear hB hif d0 d1 d2 d3 d4 d5 d6
    have d0 := block_cell HbH10.out 0
    have hb2w := Lib.hid ((HB10.out.block _ (Nat.lt_of_lt_of_le (lt_of_block Hb2c.out) HbC.out.size)).trans ((HbC.out.block _ (lt_of_block Hb2c.out)).trans Hb2c.out))
    go_upto_if 80 with fail
    go_cut [13, 49] from 49 to 217 (fun sv iv wx => iv = .int .i64 j ∧ StW (recsOf L most ⟨kd, key, val, nn, fu, kp, tn⟩) wcp sv wx)
    case first =>
      as_aux_lemma =>
        by_cases hk1 : kd = 1
        · have k1 : (kd == 1) = true := beq_iff_eq.2 hk1
          have hif := Hif.out
          have hk0f : k0b = false := by rw [Hk0.out]; exact decide_eq_false (by omega)
          rw [hk0f, if_neg (by simp)] at hif
          obtain ⟨rfl, _⟩ := hif
          have HEv := Lib.hid (HR1.out hk1)
          have Hk0f := Lib.hid hk0f
          have hlat := (HRow.out.below HbC.out).lat
          obtain ⟨pl', cl', hpe, hpp⟩ := gen_shape hlat
          injection hpe with hpe1 hpe2 hpe3
          subst hpe1 hpe3
          have Hlat := Lib.hid hlat
          have Hpp := Lib.hid hpp
          obtain ⟨n0, hn0⟩ : ∃ n0, n0 = nn.toNat := ⟨_, rfl⟩
          have Hn0 := Lib.hid hn0
          have c1 := block_cell hb2w.out 1
          rw [show (rsA most (.slice pl L.length cl) y)[1]? = some (.slice pl L.length cl) from rfl] at c1
          have hl60 : L.length ≤ 60 := by have := HL0.out.b.l; omega
          clear hlat hpp hk0f hk1 hn0
          go_wp2_with fail
          go_loopg [13, 14, 15, 86] L.length (fun g v _ _ iv wr => ∃ i : Nat, i + g = L.length ∧ iv = .int .i64 i ∧ Hid (wr.ownsRow wcp.heap.size 9 1 v ((L.take (min i n0)).map (fun e => goneB e.1)).length (LF (fun s : ByteArray => [Value.string s]) ((L.take (min i n0)).map (fun e => goneB e.1)))) ∧ Hid (Below wcp.heap.size wcp wr))
          case atStart => exact ⟨0, by omega, rfl, Lib.hid ⟨by simp [LF], .inl ⟨rfl, rfl⟩⟩, HB10⟩
          case round =>
            obtain ⟨i, hig, rfl, HO, HB⟩ := hrel
            have hbxx := (HB.out.block _ (lt_of_block HbHc.out)).trans HbHc.out
            by_cases hi : i < L.length
            · have hiI : (i : Int) < (L.length : Int) := by omega
              obtain ⟨g1, off1, rfl⟩ := Hpp.out (by omega)
              obtain ⟨x1, x2, hx⟩ : ∃ x1 x2, L[i] = (x1, x2) := ⟨_, _, rfl⟩
              have hxi : L[i]? = some (x1, x2) := by rw [List.getElem?_eq_getElem hi, hx]
              obtain ⟨hg, hc0, hc1⟩ := Hlat.out.cellsN hxi
              have e0 := (HB.out.cell (p := ⟨g1, off1 + i * 2, none⟩) hg).trans hc0
              have e1 := (HB.out.cell (p := ⟨g1, off1 + i * 2 + 1, none⟩) hg).trans hc1
              obtain ⟨hbB, hbh⟩ := box2T wr x1 x2 56
              have b0 := block_cell hbh 0
              have b1 := block_cell hbh 1
              have f3 := block_cell ((hbB.block _ (lt_of_block hbxx)).trans hbxx) 3
              have HB2 := Lib.hid (HB.out.trans (hbB.mono HB.out.size))
              have HO2 := Lib.hid (gen_own_below HO.out hbB)
              have hxs := HL0.out.b.s (x1, x2) (List.mem_of_getElem? hxi)
              dsimp only at hxs
              by_cases hjn : i < n0
              · have hjnI : (i : Int) < nn := by have := Hn0.out; omega
                have HG := Lib.hid (show (L.take (min (i + 1) n0)).map (fun e => goneB e.1) = (L.take (min i n0)).map (fun e => goneB e.1) ++ [goneB x1] from by
                  rw [Nat.min_eq_left (by omega), Nat.min_eq_left (by omega), List.take_add_one, hxi, List.map_append]; rfl)
                have hG0l : ((L.take (min i n0)).map (fun e : En => goneB e.1)).length ≤ L.length := by rw [List.length_map, List.length_take]; omega
                have HGn := Lib.hid (fun w5 => gone_any x1 w5 (by omega))
                generalize goneB x1 = rr at *
                generalize (L.take (min i n0)).map (fun e : En => goneB e.1) = G0 at *
                clear hx hxi hc0 hc1 hbB hbh HO hxs hbxx hjn
                go_upto_region 23 with fail
                generalize wr.alloc (.cells #[.string x1, .string x2] 56) = wz at *
                clear e0 e1 hg
                go_wp2_with fail
                refine (HGn.out _).mono ?_
                rintro e w3z ⟨rfl, hB3⟩
                have HB3z := Lib.hid (HB2.out.trans (hB3.mono HB2.out.size))
                have HO3 := Lib.hid (gen_own_below HO2.out hB3)
                have hsz3 := HB3z.out.size
                clear hB3 HGn b0 b1 f3
                go_wp2_with (at_builtin; go_must (refine wpList_append_gen eltS rfl (.tmp 95) (.tmp 99) rfl rfl wcp.heap.size _ G0 rfl (gen_own_below HO3.out ((Below.refl w3z.heap.size w3z).alloc (Nat.le_refl _) (.cells #[.string rr] 9))) _ [rr] (LAt.block rfl rfl (heap_alloc_new w3z (.cells #[.string rr] 9))) rfl (by simp only [List.length_cons, List.length_nil]; omega) (by unfold maxLen; simp only [List.length_cons, List.length_nil]; omega) (by simp; omega) ?_); intro v4 w4z hown4 hgrow4)
                have HB4z := Lib.hid ((HB3z.out.trans (((Below.refl w3z.heap.size w3z).alloc (Nat.le_refl _) (.cells #[.string rr] 9)).mono HB3z.out.size)).grown hgrow4 (by simp; omega) (fun k hk => (HO3.out.lt k hk).1))
                go_roundg (gk - 1)
                case measure => omega
                case rel =>
                  refine ⟨i + 1, by omega, by go_num, Lib.hid ?_, HB4z⟩
                  rw [HG.out]
                  exact hown4
              · have hjnI : ¬ (i : Int) < nn := by have := Hn0.out; omega
                have HG := Lib.hid (show min (i + 1) n0 = min i n0 from by omega)
                clear hx hxi hc0 hc1 hbB hbh HO hxs hbxx hjn
                go_upto_region 23 with fail
                generalize wr.alloc (.cells #[.string x1, .string x2] 56) = wz at *
                clear e0 e1 hg
                go_wp2_with fail
                go_roundg (gk - 1)
                case measure => omega
                case rel =>
                  refine ⟨i + 1, by omega, by go_num, Lib.hid ?_, HB2⟩
                  rw [HG.out]
                  exact HO2.out
            · have hii : i = L.length := by omega
              subst hii
              have hiI : ¬ (L.length : Int) < (L.length : Int) := by omega
              have HE := Lib.hid (show (L.take (min L.length n0)).map (fun e => goneB e.1) = recsOf L most ⟨kd, key, val, nn, fu, kp, tn⟩ from by
                rw [HEv.out, Hn0.out]
                unfold evictRs
                rw [show L.take (min L.length nn.toNat) = L.take nn.toNat from by rw [List.take_eq_take_iff]; omega])
              have ho := HO.out
              rw [HE.out, LF_strs] at ho
              have HSW := Lib.hid (show StW (recsOf L most ⟨kd, key, val, nn, fu, kp, tn⟩) wcp _ wr from ⟨ho, HB.out⟩)
              clear ho HO hbxx
              go_wp2_with fail
              go_meet
              exact ⟨rfl, HSW.out⟩
        · have k1 : (kd == 1) = false := beq_eq_false_iff_ne.2 hk1
          have HSW := Lib.hid (show StW (recsOf L most ⟨kd, key, val, nn, fu, kp, tn⟩) wcp u13 w10 from by
            have hif := Hif.out
            by_cases hk0 : kd = 0
            · rw [show k0b = true from by rw [Hk0.out]; exact decide_eq_true hk0, if_pos rfl] at hif
              rw [HR0.out hk0]
              exact hif
            · rw [show k0b = false from by rw [Hk0.out]; exact decide_eq_false hk0, if_neg (by simp)] at hif
              rw [HR2.out hk0 hk1, hif.1]
              exact ⟨⟨by simp, .inl ⟨rfl, rfl⟩⟩, hif.2⟩)
          clear hk1
          go_wp2_with fail
          go_meet
          exact ⟨rfl, HSW.out⟩
    case rest =>
    obtain ⟨rfl, hst⟩ := hcut
    obtain ⟨w11, rfl⟩ : ∃ q, q = wc := ⟨_, rfl⟩
    obtain ⟨R, hR⟩ : ∃ R, R = recsOf L most ⟨kd, key, val, nn, fu, kp, tn⟩ := ⟨_, rfl⟩
    rw [← hR] at hst
    obtain ⟨⟨ps, cs, hsv⟩, hjunk⟩ := parts_cells hst.o
    clear hjunk
    subst hsv
    have HRz := Lib.hid (show ∀ r ∈ R, r.size ≤ 8227 from by rw [hR]; exact recs_known HL0.out.b most Hsz.out.1 Hsz.out.2)
    have hRl : R.length ≤ 61 := by
      have h1 := @recs_len L most ⟨kd, key, val, nn, fu, kp, tn⟩
      rw [← hR] at h1
      have h2 := HL0.out.b.l
      omega
    have hbxx := (hst.b.block _ (lt_of_block HbHc.out)).trans HbHc.out
    have hbww := (hst.b.block _ (lt_of_block HbW.out)).trans HbW.out
    have HbC11 := Lib.hid (fo _ _ _ HbC.out hst.b)
    have HQ1 := Lib.hid (HQ.out.below HbC11.out hbs)
    have HSt1 := Lib.hid (HSt.out.same (w' := w11) (X' := Gr X wo w11) (fun q hq => HbC11.out.block q (HQ.out.lt q hq)) (fun q hq => .inl hq))
    have HRow1 := Lib.hid ((HRow.out.below HbC11.out).mono (T2 := Gr X wo w11) (fun q hq => .inl hq))
    have HAux1 := Lib.hid (show Aux (Gr X wo w11) bx bw #[.int .i64 kd, .string key, .string val, .int .i64 nn, .int .i64 fu, .int .i64 kp, .bool tn] (rsA most (.slice pl L.length cl) y) (.slice ps R.length cs) R w11 from ⟨⟨.inr ⟨by rw [Hbx.out]; exact Nat.le_refl _, lt_of_block hbxx⟩, hbxx⟩, ⟨.inr ⟨Hge.out, lt_of_block hbww⟩, hbww⟩, _, hst.o, fun g hg => .inr ⟨Nat.le_trans HbC.out.size (ownG_lt hst.o g hg).2.1, (ownG_lt hst.o g hg).1⟩⟩)
    have HBr1 := Lib.hid (HBr.out.trans (HbC11.out.mono hbs))
    generalize Gr X wo w11 = X1 at *
    have HMid := Lib.hid (show ∀ i, i ≤ R.length → Bs (j + 1) most (totC (S.take (j + 1))) (doAll L (R.take i)) from fun i hi => by
      rw [hR] at hi ⊢
      rw [HTk.out]
      exact mids HL0.out hmm.1 _ Hsz.out.1 Hsz.out.2 (arm_two HH.out.1 kN_good kN_new HHs.out HL0.out.b most ⟨kd, key, val, nn, fu, kp, tn⟩ Hsz.out.1 Hsz.out.2 HCo.out (by rw [HH.out.2.2]; omega) 0).1 i hi)
    have HE7 := Lib.hid (arm_two HH.out.1 kN_good kN_new HHs.out HL0.out.b most ⟨kd, key, val, nn, fu, kp, tn⟩ Hsz.out.1 Hsz.out.2 HCo.out (by rw [HH.out.2.2]; omega) y).2
    have Hcz := Lib.hid (HCo.out.z y 1048576 HY.out.1)
    have HR := Lib.hid hR
    have f4 := block_cell hbxx 4
    have f5 := block_cell hbxx 5
    have f6 := block_cell hbxx 6
    have hb1 := HBr1.out.size
    have HAr := Lib.hid (x_arm HQ1.out hb1 fu kp tn)
    clear hst hbxx hbww d0 hR
    go_wp2_with fail
    refine HAr.out.mono ?_
    rintro e w12 ⟨rfl, hq, hB, hk⟩
    have HQ2 := Lib.hid hq
    have HSt2 := Lib.hid (HSt1.out.same hk (fun _ h => h))
    have HAux2 := Lib.hid (HAux1.out.same hk (fun _ h => h))
    have HRow2 := Lib.hid (HRow1.out.same hk)
    have HBr2 := Lib.hid (HBr1.out.trans hB)
    have d0 := block_cell HAux2.out.x.2 0
    have d1 := block_cell HAux2.out.x.2 1
    have d2 := block_cell HAux2.out.x.2 2
    have d3 := block_cell HAux2.out.x.2 3
    have d4 := block_cell HAux2.out.x.2 4
    have d5 := block_cell HAux2.out.x.2 5
    have d6 := block_cell HAux2.out.x.2 6
    have HCa := Lib.hid (x_call HQ2.out HBr2.out.size (HOk.out.arm HCx.out.f.2) (by omega) HH.out.1 HH.out.2.2 HHs.out (by omega) (HL0.out.b.mono (by omega)) hmm (by have := HY.out; omega) ⟨kd, key, val, nn, fu, kp, tn⟩ Hsz.out.1 Hsz.out.2 HCo.out)
    obtain ⟨er, her⟩ : ∃ q, q = (refOut L most y 1048576 ⟨kd, key, val, nn, fu, kp, tn⟩).1 := ⟨_, rfl⟩
    have Her := Lib.hid her
    rw [← her] at HCa
    unfold cA clA at HCa
    try dsimp only at HCa
    clear hq hB hk HAr f4 f5 f6 her HQ1 HSt1 HRow1 HAux1 HBr1 hb1
    go_wp2_with fail
    refine HCa.out.mono ?_
    rintro e w13 ⟨x1, rfl, hc⟩
    obtain ⟨X2, h2, A2, L2, hX, hq, hok, hrm, hor⟩ := hc.f
    have HQ3 := Lib.hid hq
    have HSt3 := Lib.hid (HSt2.out.same hc.k hX)
    have HAux3 := Lib.hid (HAux2.out.same hc.k hX)
    have HRow3 := Lib.hid ((HRow2.out.same hc.k).mono hX)
    have HBr3 := Lib.hid (HBr2.out.trans hc.b)
    have Hok := Lib.hid hok
    have Hrm := Lib.hid hrm
    have Hor := Lib.hid hor
    clear hc hq hok hrm hor hX d0 d1 d2 d3 d4 d5 d6 HCa HQ2 HSt2 HRow2 HAux2 HBr2
    rw [← HR.out] at HQ3 Hor
    have HAr2 := Lib.hid (x_arm HQ3.out HBr3.out.size 0 0 false)
    obtain ⟨y1, hy1⟩ : ∃ q, q = (refOut L most y 1048576 ⟨kd, key, val, nn, fu, kp, tn⟩).2.2 := ⟨_, rfl⟩
    rw [← hy1] at HAr2 Hcz
    clear hy1
    go_wp2_with fail
    refine HAr2.out.mono ?_
    rintro e w14 ⟨rfl, hq, hB, hk⟩
    obtain ⟨h3, hh3⟩ : ∃ q, q = ({ h2 with left := max 0 0, keep := 0, torn := false } : Hd) := ⟨_, rfl⟩
    rw [← hh3] at hq
    have H3 := Lib.hid (show h3.down = h2.down ∧ h3.left = 0 ∧ h3.room = 1048576 from by rw [hh3]; exact ⟨rfl, rfl, Hrm.out⟩)
    have Hok3 := Lib.hid (show DvOk (5 * j + 3) h3 A2 from by rw [hh3]; exact Hok.out.arm (by omega))
    have HQ4 := Lib.hid hq
    have HSt4 := Lib.hid (HSt3.out.same hk (fun _ h => h))
    have HAux4 := Lib.hid (HAux3.out.same hk (fun _ h => h))
    have HRow4 := Lib.hid (HRow3.out.same hk)
    have HBr4 := Lib.hid (HBr3.out.trans hB)
    have c1 := block_cell HAux4.out.c.2 1
    rw [show (rsA most (.slice pl L.length cl) y)[1]? = some (.slice pl L.length cl) from rfl] at c1
    clear hh3 hq hB hk HAr2 Hok Hrm HQ3 HSt3 HAux3 HRow3 HBr3
    go_wp2_with fail
    go_loopg [9, 18, 20, 125] R.length (fun g sv nv _ iv wr => ∃ (i : Nat) (X' : Nat → Prop), i + g = R.length ∧ iv = .int .i64 i ∧ Hid (RowL X' (doAll L (R.take i)) nv wr) ∧ Hid (Sts X' sv (Ms ++ (stL L R).take i) wr) ∧ Hid (QX w2.heap.size X' b d most h3 A2 L2 b2 (doAll L R) y1 wr) ∧ Hid (Aux X' bx bw #[.int .i64 kd, .string key, .string val, .int .i64 nn, .int .i64 fu, .int .i64 kp, .bool tn] (rsA most (.slice pl L.length cl) y) (.slice ps R.length cs) R wr) ∧ Hid (Below w2.heap.size w2 wr))
    case atStart => exact ⟨0, X2, by omega, rfl, HRow4, Lib.hid (by rw [List.take_zero, List.append_nil]; exact HSt4.out), HQ4, HAux4, HBr4⟩
    case round =>
      obtain ⟨i, X', hig, rfl, HNv, HSv, HQv, HAv, HBv⟩ := hrel
      obtain ⟨pn, cn, hnv⟩ := HNv.out.slice
      subst hnv
      by_cases hi : i < R.length
      · as_aux_lemma =>
          have hiI : (i : Int) < (R.length : Int) := by omega
          obtain ⟨_, ho, hob⟩ := HAv.out.s
          obtain ⟨_, hq⟩ := parts_cells ho
          obtain ⟨gs, cs2, heq, _, hlt, hlc, hcm, hcell⟩ := hq (by omega)
          injection heq with heq1 _ heq2
          subst heq1 heq2
          have e0 := hcell i hi
          obtain ⟨r, hr⟩ : ∃ r, r = R[i] := ⟨_, rfl⟩
          have HNx := Lib.hid (show doAll L (R.take (i + 1)) = doG (doAll L (R.take i)) r from by rw [hr]; exact doAll_at R L i hi)
          have HSx := Lib.hid (stL_at R L i hi)
          have hrz : r.size ≤ 8227 := HRz.out r (by rw [hr]; exact List.getElem_mem hi)
          rw [← hr] at e0
          have HDn := Lib.hid (done_any (doAll L (R.take i)) _ wr HNv.out (by have := (HMid.out i (by omega)).b.l; omega) (HMid.out i (by omega)).b.nd r (by omega))
          have hbv := HBv.out.size
          clear ho hob hcell hr hrz hq
          go_wp2_with fail
          refine HDn.out.mono ?_
          rintro e w15 ⟨v15, rfl, hrow, hB⟩
          have hrow2 : RowL (Gr X' wr w15) (doAll L (R.take (i + 1))) v15 w15 := by rw [HNx.out]; exact hrow
          obtain ⟨pv, cv, rfl⟩ := hrow2.slice
          have HRw := Lib.hid hrow2
          have hbA := (Below.refl w15.heap.size w15).alloc (Nat.le_refl _) (.cells #[.slice pv (doAll L (R.take (i + 1))).length cv] 32)
          have HbA := Lib.hid (hB.trans (hbA.mono hB.size))
          have HNm := Lib.hid (heap_alloc_new w15 (.cells #[.slice pv (doAll L (R.take (i + 1))).length cv] 32))
          have HRwA := Lib.hid ((hrow2.below hbA).mono (T2 := Gr X' wr (w15.alloc (.cells #[.slice pv (doAll L (R.take (i + 1))).length cv] 32))) (fun q hq => hq.imp id (fun h => ⟨h.1, Nat.lt_of_lt_of_le h.2 hbA.size⟩)))
          have HQA := Lib.hid (HQv.out.below HbA.out hbv)
          have HSA := Lib.hid (HSv.out.same (w' := w15.alloc (.cells #[.slice pv (doAll L (R.take (i + 1))).length cv] 32)) (X' := Gr X' wr (w15.alloc (.cells #[.slice pv (doAll L (R.take (i + 1))).length cv] 32))) (fun q hq => HbA.out.block q (HQv.out.lt q hq)) (fun q hq => .inl hq))
          have HAA := Lib.hid (HAv.out.same (w' := w15.alloc (.cells #[.slice pv (doAll L (R.take (i + 1))).length cv] 32)) (X' := Gr X' wr (w15.alloc (.cells #[.slice pv (doAll L (R.take (i + 1))).length cv] 32))) (fun q hq => HbA.out.block q (HQv.out.lt q hq)) (fun q hq => .inl hq))
          have HBA := Lib.hid (HBv.out.trans (HbA.out.mono hbv))
          have hsl : (Ms ++ (stL L R).take i).length ≤ 4194304 := by
            have h1 := HMl.out
            rw [List.length_append, List.length_take]; omega
          clear hrow hrow2 hB hbA HDn e0 HNx
          generalize (doAll L (R.take (i + 1))).length = ln9 at *
          go_wp2_with (at_builtin; go_must (refine wpList_append_sts rfl (.tmp 135) (.tmp 137) rfl rfl HSA.out HRwA.out HNm.out (fun q hq => HQA.out.lt q hq) hsl rfl rfl ?_); intro v4 w4z hst4)
          obtain ⟨X4, k1_, k2_, hs4⟩ := hst4.x
          obtain ⟨g4, cur4, hx4, hg4, hgb4⟩ := hst4.g
          have hqb := HQA.out.grown hx4 hg4 hgb4 k1_ k2_ HBA.out.size
          have HQn := Lib.hid hqb.1
          have HBn := Lib.hid (HBA.out.trans hqb.2)
          have HAn := Lib.hid (HAA.out.grown hg4 hgb4 k1_)
          have HRn := Lib.hid ((HRwA.out.grown hg4 hgb4).mono k1_)
          have HSn := Lib.hid (show Sts X4 v4 (Ms ++ (stL L R).take (i + 1)) w4z from by rw [HSx.out, ← List.append_assoc]; exact hs4)
          clear hst4 hx4 hg4 hgb4 hqb hs4 k1_ k2_
          go_roundg (gk - 1)
          case measure => omega
          case rel => exact ⟨i + 1, X4, by omega, by go_num, HRn, HSn, HQn, HAn, HBn⟩
      · have hii : i = R.length := by omega
        subst hii
        have hiI : ¬ (R.length : Int) < (R.length : Int) := by omega
        obtain ⟨gki, hgki⟩ : ∃ g, g = gk := ⟨_, rfl⟩
        obtain ⟨wi, hwi⟩ : ∃ q, q = wr := ⟨_, rfl⟩
        subst hgki hwi
        have hsa := HSv.out
        rw [show (stL L R).take R.length = stL L R from List.take_of_length_le (by rw [stL_len]; exact Nat.le_refl _)] at hsa
        have HM9 := Lib.hid (show ∀ M, M ∈ Ms ++ stL L R → Bs (j + 1) most (totC (S.take (j + 1))) M from fun M hM => by
          rcases List.mem_append.1 hM with hM | hM
          · exact HMj.out M hM
          · obtain ⟨q, hq, rfl⟩ := stL_mem R L M hM
            exact HMid.out (q + 1) (by omega))
        have HL9 := Lib.hid (stL_last R L Ms HLa.out)
        have HN9 := Lib.hid (show (Ms ++ stL L R).length ≤ 62 + 100 * j from by rw [List.length_append, stL_len]; have := HMl.out; omega)
        have HBL := Lib.hid (show Bs (j + 1) most (totC (S.take (j + 1))) (doAll L R) from by have := HMid.out R.length (Nat.le_refl _); rwa [List.take_length] at this)
        have Hor2 := Hor
        obtain ⟨Ms9, hMs9⟩ : ∃ q, q = Ms ++ stL L R := ⟨_, rfl⟩
        rw [← hMs9] at hsa HM9 HL9 HN9 Hor2
        have hn0 : Ms9 ≠ [] := fun e => by have := HL9.out; rw [e] at this; cases this
        obtain ⟨K, hK⟩ : ∃ K, Ms9.length = K + 1 := ⟨Ms9.length - 1, by have := List.length_pos_iff.2 hn0; omega⟩
        have HlK := Lib.hid (show Ms9[K]? = some (doAll L R) from by have := HL9.out; rw [List.getLast?_eq_getElem?, hK] at this; exact this)
        have HS9 := Lib.hid hsa
        obtain ⟨g9, off9, cap9, hsv, hcap, hmax, hcell⟩ := hsa.shape
        have Hcell := Lib.hid hcell
        subst hsv
        rw [hK] at hcap HS9 ⊢
        have hKc : K < cap9 := by omega
        have HK := Lib.hid hK
        have HY9 := Lib.hid (show 0 ≤ y1 ∧ y1 ≤ 8271 * ((j + 1 : Nat) : Int) from by have h1 := Hcz.out; have h2 := HY.out; omega)
        have Hmax := Lib.hid hmax
        have hbi := HBv.out.size
        clear hsa hcell hn0 hK hMs9 hcap hmax
        rcases Hor2.out with ⟨hx1, hL2, hdn, hHs⟩ | ⟨hx1, hdn, hWr⟩
        · as_aux_lemma =>
            have hxe : x1 = er := hx1.trans Her.out.symm
            subst hxe
            subst hL2
            have e7 : (x1 == 7) = false := beq_eq_false_iff_ne.2 (by rw [Her.out]; exact HE7.out.1)
            have He0 := Lib.hid (show kd = 2 ∨ kd = 3 → x1 = 0 from fun q => by rw [Her.out]; exact HE7.out.2.1 q)
            have HHs9 := Lib.hid hHs
            have H39 := Lib.hid (show h3.down = false ∧ h3.left = 0 ∧ h3.room = 1048576 from ⟨by rw [H3.out.1]; exact hdn, H3.out.2⟩)
            obtain ⟨pl2, cl2, hb2, hrow⟩ := HQv.out.row
            have HHa := Lib.hid (x_has HQv.out HBL.out.b (by omega) hrow (by have := HBL.out.b.l; omega))
            rw [decide_eq_true (show doAll L R = doAll L R from rfl)] at HHa
            have c1 := block_cell hb2 1
            rw [show (rsA most (.slice pl2 (doAll L R).length cl2) y1)[1]? = some (.slice pl2 (doAll L R).length cl2) from rfl] at c1
            clear hx1 hdn hHs hb2 hrow
            generalize (doAll L R).length = ln2 at c1 HHa
            go_wp2_with fail
            refine HHa.out.mono ?_
            rintro e wf ⟨rfl, hB⟩
            have HQ8 := Lib.hid (HQv.out.below hB hbi)
            have HS8 := Lib.hid (HS9.out.same (w' := wf) (X' := Gr X' wi wf) (fun q hq => hB.block q (HQv.out.lt q hq)) (fun q hq => .inl hq))
            have HB8z := Lib.hid (HBv.out.trans (hB.mono hbi))
            have d0 := block_cell ((hB.block _ (lt_of_block HAv.out.x.2)).trans HAv.out.x.2) 0
            clear hB c1 HHa e7
            dsimp only
            clear hiI
            by_cases hk2 : kd = 2
            · as_aux_lemma =>
                have hx0 : x1 = 0 := He0.out (.inl hk2)
                have HT := Lib.hid (show Hs A2 kN [L] (doAll L R) (8271 * j + 8271) from by have hq := HHs9.out; rw [if_pos (Or.inl hk2)] at hq; exact hq)
                have k2 : (kd == 2) = true := beq_iff_eq.2 hk2
                have HRn := Lib.hid (show R = [] from by rw [HR.out]; exact HR2.out (by omega) (by omega))
                have HSl := Lib.hid (HS8.out.last HK.out HlK.out)
                subst hx0
                subst hk2
                clear k2
                go_upto_region 39 with fail
                have hKb : K ≤ 10000 := by have := HN9.out; have := HK.out; omega
                have hc1 : cap9 - K ≠ 0 := by omega
                have hc2 : cap9 ≠ K := by omega
                go_upto_region 40 with fail
                go_wp2_with fail
                go_roundg (gko - 1)
                case measure => omega
                case rel => exact ⟨j + 1, b, Gr X' wi wf, doAll L R, [doAll L R], h3, A2, y1, by omega, by go_num, rfl, Lib.hid (fun M hM => by rw [List.mem_singleton.1 hM]; exact HBL.out), Lib.hid rfl, Lib.hid (by simp), HY9, Lib.hid ((show Hs A2 kN [doAll L R] (doAll L R) (8271 * j + 8271) from by rw [HRn.out]; rw [HRn.out] at HT; exact HT.out).more (fun _ h => h) (by omega)), H39, Lib.hid (Hok3.out.more (by omega)), HQ8, HSl, HB8z⟩
            by_cases hk3 : kd = 3
            · as_aux_lemma =>
                have hx0 : x1 = 0 := He0.out (.inr hk3)
                have HT := Lib.hid (show Hs A2 kN [L] (doAll L R) (8271 * j + 8271) from by have hq := HHs9.out; rw [if_pos (Or.inr hk3)] at hq; exact hq)
                have k2 : (kd == 2) = false := beq_eq_false_iff_ne.2 hk2
                have k3 : (kd == 3) = true := beq_iff_eq.2 hk3
                have hn0 : ¬ kd = 0 := fun q => by rw [q] at hk3; exact absurd hk3 (by decide)
                have hn1 : ¬ kd = 1 := fun q => by rw [q] at hk3; exact absurd hk3 (by decide)
                have HRn := Lib.hid (show R = [] from HR.out.trans (HR2.out hn0 hn1))
                clear hn0 hn1
                have HSl := Lib.hid (HS8.out.last HK.out HlK.out)
                subst hx0
                subst hk3
                clear k2 k3 hk2
                go_upto_region 39 with fail
                have hKb : K ≤ 10000 := by have := HN9.out; have := HK.out; omega
                have hc1 : cap9 - K ≠ 0 := by omega
                have hc2 : cap9 ≠ K := by omega
                go_upto_region 40 with fail
                go_wp2_with fail
                go_roundg (gko - 1)
                case measure => omega
                case rel => exact ⟨j + 1, b, Gr X' wi wf, doAll L R, [doAll L R], h3, A2, y1, by omega, by go_num, rfl, Lib.hid (fun M hM => by rw [List.mem_singleton.1 hM]; exact HBL.out), Lib.hid rfl, Lib.hid (by simp), HY9, Lib.hid ((show Hs A2 kN [doAll L R] (doAll L R) (8271 * j + 8271) from by rw [HRn.out]; rw [HRn.out] at HT; exact HT.out).more (fun _ h => h) (by omega)), H39, Lib.hid (Hok3.out.more (by omega)), HQ8, HSl, HB8z⟩
            have k2 : (kd == 2) = false := beq_eq_false_iff_ne.2 hk2
            have k3 : (kd == 3) = false := beq_eq_false_iff_ne.2 hk3
            have HT := Lib.hid (show Hs A2 kN Ms9 (doAll L R) (8271 * j + 8271) from by have hq := HHs9.out; rw [if_neg (fun (q : kd = 2 ∨ kd = 3) => q.elim hk2 hk3)] at hq; exact hq)
            obtain ⟨qz, hqz⟩ : ∃ q, (x1 == 0) = q := ⟨_, rfl⟩
            clear hk2 hk3
            cases qz
            all_goals
              go_wp2_with fail
              go_roundg (gko - 1)
              case measure => omega
              case rel => exact ⟨j + 1, b, Gr X' wi wf, doAll L R, Ms9, h3, A2, y1, by omega, by go_num, rfl, HM9, HL9, Lib.hid (by have := HN9.out; omega), HY9, Lib.hid (HT.out.more (fun _ h => h) (by omega)), H39, Lib.hid (Hok3.out.more (by omega)), HQ8, Lib.hid (by have := HS8.out; rwa [← HK.out] at this), HB8z⟩
        · as_aux_lemma =>
            subst hx1
            have HWr := Lib.hid hWr
            have HDn := Lib.hid (show h3.down = true from by rw [H3.out.1]; exact hdn)
            have f5 := block_cell HAv.out.x.2 5
            have f6 := block_cell HAv.out.x.2 6
            have HOf := Lib.hid (x_off HQv.out hbi Hok3.out.t HDn.out kp tn)
            clear hdn hWr Hor2 Hor hiI
            go_wp2_with fail
            refine HOf.out.mono ?_
            rintro e w20 ⟨rfl, hq, hB, hk⟩
            have HQ5 := Lib.hid hq
            have HS5 := Lib.hid (HS9.out.same hk (fun _ h => h))
            have HA5 := Lib.hid (HAv.out.same hk (fun _ h => h))
            have HB5z := Lib.hid (HBv.out.trans hB)
            have HOn := Lib.hid (x_on HQ5.out HB5z.out.size)
            clear hq hB hk f5 f6 HOf
            go_wp2_with fail
            refine HOn.out.mono ?_
            rintro e w21 ⟨rfl, hq, hB, hk⟩
            obtain ⟨h4, hh4⟩ : ∃ q, q = ({ h3 with down := false } : Hd) := ⟨_, rfl⟩
            rw [← hh4] at hq
            have H4 := Lib.hid (show h4.down = false ∧ h4.left = 0 ∧ h4.room = 1048576 from by rw [hh4]; exact ⟨rfl, H3.out.2⟩)
            have Hok4 := Lib.hid (show DvOk (5 * j + 3) h4 A2 from by rw [hh4]; exact Hok3.out.on)
            obtain ⟨h5, A5, M, ho, hM, hHs5, q1, q2, q3⟩ := HWr.out.open (h := h4) H4.out.1 H4.out.2.1 kN_good kN_new
            have hok5 := open_ok Hok4.out HWr.out.nd kN
            rw [ho] at hok5
            have HQ6 := Lib.hid hq
            have HS6 := Lib.hid (HS5.out.same hk (fun _ h => h))
            have HA6 := Lib.hid (HA5.out.same hk (fun _ h => h))
            have HB6z := Lib.hid (HB5z.out.trans hB)
            have HOp := Lib.hid (x_open HQ6.out HB6z.out.size Hok4.out (by have := hj; omega) hmm ho)
            have HM := Lib.hid hM
            have HHs5 := Lib.hid (hHs5.more (z2 := 8271 * (j + 1)) (fun _ h => h) (by omega))
            have Hok5 := Lib.hid (show DvOk (5 * (j + 1)) h5 A5 from hok5.more (by omega))
            have H5 := Lib.hid (show h5.down = false ∧ h5.left = 0 ∧ h5.room = 1048576 from ⟨q1, q2, by rw [q3]; exact H4.out.2.2⟩)
            unfold kN at HOp
            clear hq hB hk hh4 ho hM hHs5 q1 q2 q3 hok5 HOn HQ5 HS5 HA5 HB5z
            go_wp2_with fail
            refine HOp.out.mono ?_
            rintro e w22 ⟨b3, rfl, hq, hB, hk⟩
            have HQ7 := Lib.hid hq
            have HS7 := Lib.hid (HS6.out.same hk (fun _ h => h))
            have HB7z := Lib.hid (HB6z.out.trans hB)
            have hKb : K ≤ 10000 := by have h1 := HN9.out; have h2 := HK.out; omega
            have HBM := Lib.hid (HM9.out M HM.out)
            obtain ⟨t0, ht0, hMt⟩ : ∃ t, t ≤ K ∧ Ms9[t]? = some M := by
              obtain ⟨t, ht⟩ := List.mem_iff_getElem?.1 HM.out
              have h1 := (List.getElem?_eq_some_iff.1 ht).1
              have h2 := HK.out
              exact ⟨t, by omega, ht⟩
            have HT0 := Lib.hid (show ∃ t, t ≤ K ∧ Ms9[t]? = some M from ⟨t0, ht0, hMt⟩)
            clear hq hB hk HOp HQ6 HS6 HA6 HB6z ht0 hMt
            go_wp2_with fail
            go_loopg [21] (K + 1) (fun g av wr => ∃ a : Nat, g = a + 1 ∧ av = .int .i64 a ∧ a ≤ K ∧ Hid (∃ t, t ≤ a ∧ Ms9[t]? = some M) ∧ Hid (Below w22.heap.size w22 wr))
            case atStart => exact ⟨K, rfl, by go_num, Nat.le_refl _, HT0, Lib.hid (Below.refl _ _)⟩
            case round =>
              obtain ⟨a, hga, rfl, haK, HT, HBa⟩ := hrel
              obtain ⟨Ma, hMa⟩ : ∃ Ma, Ms9[a]? = some Ma := ⟨_, List.getElem?_eq_getElem (by have := HK.out; omega)⟩
              have hb22 := HB7z.out.size
              have HS10 := Lib.hid (HS7.out.same (w' := wr) (X' := Gr X' w22 wr) (fun q hq => HBa.out.block q (HQ7.out.lt q hq)) (fun q hq => .inl hq))
              have HQ10 := Lib.hid (HQ7.out.below HBa.out hb22)
              have HB10z := Lib.hid (HB7z.out.trans (HBa.out.mono hb22))
              obtain ⟨g10, off10, cap10, hsv, _, _, hcell⟩ := HS10.out.shape
              injection hsv with hsv1 hz1 hz2
              clear hz1 hz2
              injection hsv1 with hsv1
              injection hsv1 with hsv1 hsv2
              subst hsv1 hsv2
              obtain ⟨pa, ca, e0, hra⟩ := hcell a Ma hMa
              have HRa := Lib.hid hra
              have HMa := Lib.hid hMa
              have HBMa := Lib.hid (HM9.out Ma (List.mem_of_getElem? hMa))
              have HHa := Lib.hid (x_has HQ10.out HBM.out.b (by omega) hra (by have := HBMa.out.b.l; omega))
              have haI : (0 : Int) ≤ (a : Int) := by omega
              have haI2 : ¬ (a : Int) < 0 := by omega
              have haK1 : a < K + 1 := by omega
              have haK2 : (a : Int) < ((K + 1 : Nat) : Int) := by omega
              clear hcell hra hMa
              obtain ⟨qe, hqe⟩ : ∃ q, q = decide (M = Ma) := ⟨_, rfl⟩
              rw [← hqe] at HHa
              have Hqe := Lib.hid hqe
              clear hqe
              go_wp2_with fail
              refine HHa.out.mono ?_
              rintro e wf ⟨rfl, hB⟩
              have HbE := Lib.hid hB
              clear hB HHa
              cases qe with
              | true =>
                as_aux_lemma =>
                  have HMM := Lib.hid (show M = Ma from of_decide_eq_true Hqe.out.symm)
                  have hbw := HB10z.out.size
                  have HQ11 := Lib.hid (HQ10.out.below HbE.out hbw)
                  have HS11 := Lib.hid (HS10.out.same (w' := wf) (X' := Gr (Gr X' w22 wr) wr wf) (fun q hq => HbE.out.block q (HQ10.out.lt q hq)) (fun q hq => .inl hq))
                  have HR11 := Lib.hid (((HRa.out.below HbE.out)).mono (T2 := Gr (Gr X' w22 wr) wr wf) (fun q hq => .inl hq))
                  have HB11z := Lib.hid (HB10z.out.trans (HbE.out.mono hbw))
                  have e1 := (HbE.out.cell (p := ⟨g9, off9 + a, none⟩) (by obtain ⟨cc, hcc⟩ := Option.isSome_iff_exists.1 (by rw [e0]; rfl : (wr.cell? ⟨g9, off9 + a, none⟩).isSome = true); exact World.block_lt_of_cell? _ ⟨g9, off9 + a, none⟩ hcc)).trans e0
                  obtain ⟨pl3, cl3, hb3, _⟩ := HQ11.out.row
                  have c1 := block_cell hb3 1
                  have fr1 := block_free hb3 1
                  obtain ⟨hql, hkl, hbl⟩ := HQ11.out.list HR11.out
                  have HQ12 := Lib.hid hql
                  have HS12 := Lib.hid (HS11.out.same hkl (fun _ h => h))
                  have HR12 := Lib.hid (HR11.out.same hkl)
                  have HB12z := Lib.hid (HB11z.out.trans hbl)
                  clear hql hkl hbl hb3 e0
                  go_upto_region 52 with fail
                  generalize wf.setCell ⟨b2, 1, none⟩ (.slice pa Ma.length ca) = wg at *
                  clear c1 fr1 e1
                  obtain ⟨pl4, cl4, hb4, hr4⟩ := HQ12.out.row
                  have c1 := block_cell hb4 1
                  rw [show (rsA most (.slice pl4 Ma.length cl4) y1)[1]? = some (.slice pl4 Ma.length cl4) from rfl] at c1
                  have hbg := HB12z.out.size
                  have hbA := (Below.refl wg.heap.size wg).alloc (Nat.le_refl _) (.cells #[.slice pl4 Ma.length cl4] 32)
                  have hNA := heap_alloc_new wg (.cells #[.slice pl4 Ma.length cl4] 32)
                  have HQ13 := Lib.hid (HQ12.out.below hbA hbg)
                  have HS13 := Lib.hid (Sts.one (X := Gr (Gr (Gr X' w22 wr) wr wf) wg (wg.alloc (.cells #[.slice pl4 Ma.length cl4] 32))) (.inr ⟨Nat.le_refl _, lt_of_block hNA⟩) hNA ((hr4.below hbA).mono (fun q hq => .inl hq)))
                  have HB13z := Lib.hid (HB12z.out.trans (hbA.mono hbg))
                  clear hb4 hr4 hbA hNA
                  go_wp2_with fail
                  go_roundg (gko - 1)
                  case measure => omega
                  case rel => exact ⟨j + 1, b3, _, Ma, [Ma], h5, A5, y1, by omega, by go_num, rfl, Lib.hid (fun q hq => by rw [List.mem_singleton.1 hq]; exact HBMa.out), Lib.hid rfl, Lib.hid (by simp), HY9, Lib.hid (by rw [← HMM.out]; exact HHs5.out), H5, Hok5, Lib.hid (by have := HQ13.out; rw [HMM.out] at this; exact this), HS13, HB13z⟩
              | false =>
                as_aux_lemma =>
                  have hne : ¬ M = Ma := of_decide_eq_false Hqe.out.symm
                  have HTn := Lib.hid (show ∃ t, t ≤ a - 1 ∧ Ms9[t]? = some M from by
                    obtain ⟨t, ht, hMt⟩ := HT.out
                    refine ⟨t, ?_, hMt⟩
                    have : t ≠ a := fun e => by
                      rw [e, HMa.out] at hMt
                      injection hMt with hMt
                      exact hne hMt.symm
                    omega)
                  have ha1 : 1 ≤ a := by
                    obtain ⟨t, ht, hMt⟩ := HT.out
                    have : t ≠ a := fun e => by
                      rw [e, HMa.out] at hMt
                      injection hMt with hMt
                      exact hne hMt.symm
                    omega
                  obtain ⟨a', rfl⟩ : ∃ a', a = a' + 1 := ⟨a - 1, by omega⟩
                  have HBn := Lib.hid (HBa.out.trans (HbE.out.mono HBa.out.size))
                  clear hne e0
                  go_wp2_with fail
                  go_roundg (gk - 1)
                  case measure => omega
                  case rel => exact ⟨a', by omega, by go_num, by omega, HTn, HBn⟩
end Go.Proofs.Ytbdlmdmbaajcmaa
