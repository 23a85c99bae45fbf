/- The statement KvlogAgain. -/
import Derived.Test.YtbdlmdmbaajcmaaWe
import Derived.Test.YtbdlmdmbaajcmaaVi
namespace Go.Proofs.Ytbdlmdmbaajcmaa
set_option linter.unusedVariables false
set_option linter.unusedSimpArgs false
open Go.ChangeShapes Go.WideShapes Go.ChangeAt Go.RowKit

theorem Tx.has {B b d n c N : Nat} {m z m1 : Int} {L LA : List En} {nm : ByteArray} {P : Hd → Prop} {w : World} (k : Tx B b d n c m L z nm m1 LA P w) (bL : Bd N LA) (hN : N ≤ 1048576) (hl : L.length ≤ 1048576) : ∃ p q, w.heap[c]? = some (.cells (rsA m (.slice p L.length q) z) 34 (0, 0)) ∧ Calls Try.prog 14 #[.pointer (some ⟨b, 0, none⟩), .slice p L.length q] w fun e w' => e = .returned (.bool (decide (LA = L))) ∧ Below w.heap.size w w' := by
  obtain ⟨h, A, k1, _⟩ := k.f
  obtain ⟨lv, p, q, rfl, h1, h2⟩ := k1.list
  exact ⟨p, q, h1, has_duo k1.duo bL hN h2 hl⟩
def omB : ByteArray := ⟨#[111, 110, 101, 32, 109, 111, 114, 101]⟩
set_option maxRecDepth 100000 in
set_option maxHeartbeats 8000000 in
theorem again_walk (most : Int) (v1 v2 : Value) (S : List Cl) (F : List Int) (keep : Int) (torn : Bool) (w : World) (hS : LAt 7 clV w v1 S) (zS : ∀ c ∈ S, c.key.size ≤ 140737488351232 ∧ c.val.size ≤ 140737488351232) (lS : S.length ≤ 9223372036854775807) (hF : IntsIn w v2 F) :
    Calls Try.prog 5 #[.int .i64 most, v1, v2, .int .i64 keep, .bool torn] w fun e w' => e = .returned (.bool true) ∧ Below w.heap.size w w' := by
  have HA := Lib.hid (alive_any w)
  have HG0 := Lib.hid (fun w1 (hB : Below w.heap.size w w1) => great_any S v1 w1 (hS.below hB) lS zS)
  obtain ⟨p, c, rfl, hp⟩ := gen_shape hS
  obtain ⟨pf, cf, rfl, hpf⟩ := hF.f
  have HpF := Lib.hid hpf
  have HzF := Lib.hid hF.z
  have HnF := Lib.hid hF.n
  have HqS := Lib.hid hS
  clear hS zS hF hpf
  by_cases hr0 : most < 1 ∨ 100 < most ∨ (20 : Int) < (F.length : Int)
  · obtain ⟨q0, hq0⟩ : ∃ q, decide (most < 1) = q := ⟨_, rfl⟩
    obtain ⟨q1, hq1⟩ : ∃ q, decide (100 < most) = q := ⟨_, rfl⟩
    obtain ⟨q2, hq2⟩ : ∃ q, decide ((20 : Int) < (F.length : Int)) = q := ⟨_, rfl⟩
    have hqq : q0 = true ∨ q1 = true ∨ q2 = true := by
      rcases hr0 with h | h | h
      · exact .inl (by rw [← hq0]; exact decide_eq_true h)
      · exact .inr (.inl (by rw [← hq1]; exact decide_eq_true h))
      · exact .inr (.inr (by rw [← hq2]; exact decide_eq_true h))
    clear hr0
    cases q0 <;> cases q1 <;> cases q2
    · simp at hqq
    all_goals
      clear hqq
      go_enter Try.func5, Try.ntmps5
      go_wp2_with fail
      refine HA.out.mono ?_
      rintro e w1 ⟨rfl, hB⟩
      have HG := Lib.hid (HG0.out w1 hB)
      have HB := Lib.hid hB
      clear hB
      go_wp2_with fail
      refine HG.out.mono ?_
      rintro e w2 ⟨r, rfl, hr, hB⟩
      have HB2 := Lib.hid (HB.out.trans (hB.mono HB.out.size))
      clear hr hB HG
      cases r
      all_goals
        go_wp2_with fail
        go_ret
        exact ⟨rfl, HB2.out⟩
  have hm1 : ¬ most < 1 := fun h => hr0 (.inl h)
  have hm2 : ¬ 100 < most := fun h => hr0 (.inr (.inl h))
  have hf20 : ¬ (20 : Int) < (F.length : Int) := fun h => hr0 (.inr (.inr h))
  have hd20 : decide ((20 : Int) < (F.length : Int)) = false := decide_eq_false hf20
  clear hr0
  go_enter Try.func5, Try.ntmps5
  go_wp2_with fail
  refine HA.out.mono ?_
  rintro e w1 ⟨rfl, hB⟩
  have HG := Lib.hid (HG0.out w1 hB)
  have HB := Lib.hid hB
  clear hB HG0 HA
  go_wp2_with fail
  refine HG.out.mono ?_
  rintro e w2 ⟨r, rfl, hr, hB⟩
  have HB2 := Lib.hid (HB.out.trans (hB.mono HB.out.size))
  clear hB HG HB
  cases r with
  | true =>
    go_wp2_with fail
    go_ret
    exact ⟨rfl, HB2.out⟩
  | false =>
  obtain ⟨h60, h4096⟩ := hr rfl
  have HTo := Lib.hid h4096
  have HTot := Lib.hid (fun c hc => show c.key.size + c.val.size ≤ 4096 from Nat.le_trans (tot_mem S c hc) h4096)
  have HN := Lib.hid (cNew 1048576 w2)
  have hws := HB2.out.size
  clear hr h4096
  go_wp2_with fail
  refine HN.out.mono ?_
  rintro e w3 ⟨rfl, hd, hB⟩
  have HB3 := Lib.hid hB
  have hmm : 1 ≤ most ∧ most ≤ 4096 := by omega
  have Hm100 := Lib.hid hm2
  have HO := Lib.hid (start_duo (by omega) (by omega) hd hB.size most hmm)
  unfold kN at HO
  clear hd hB HN hd20 hm1 hm2
  go_wp2_with fail
  refine HO.out.mono ?_
  rintro e w4 ⟨b0, rfl, hs, hB⟩
  have HB4 := Lib.hid (HB3.out.trans hB)
  have hb4 := HB4.out.size
  have HSo0 := Lib.hid (start_sol 1048576 (by omega) (by omega) kN)
  have hbm := (Below.refl w4.heap.size w4).alloc (Nat.le_refl _) (.cells #[.int .i64 most, .slice none 0 0, .int .i64 0] 34)
  have hnm := heap_alloc_new w4 (.cells #[.int .i64 most, .slice none 0 0, .int .i64 0] 34)
  have hT0 := Lib.hid (hs.tri (b2 := w4.heap.size) (m2 := most) (L2 := []) (z := 0) hbm hb4 ⟨⟨_, hnm, w4.heap.size, ⟨rfl, .inl ⟨rfl, rfl⟩⟩, fun g hg => by cases hg⟩, by simp⟩)
  have HB5 := Lib.hid (HB4.out.trans (hbm.mono hb4))
  clear hs hB HO HB3 hbm hnm
  generalize w2.heap.size + 1 = d at *
  go_upto_region 10 with fail
  generalize w4.alloc (.cells #[.int .i64 most, .slice none 0 0, .int .i64 0] 34) = w5 at *
  obtain ⟨b2, hb2⟩ : ∃ b2, b2 = w4.heap.size := ⟨_, rfl⟩
  rw [← hb2] at hT0 ⊢
  have Hb2 := Lib.hid hb2
  clear hb2 hb4
  go_wp2_with fail
  go_loopg [16, 17, 18, 52] S.length (fun g _ _ _ iv wr => ∃ (j : Nat) (L : List En) (h : Hd) (A : List Ab) (z : Nat) (y : Int), j + g = S.length ∧ iv = .int .i64 j ∧ Hid (Bd j L) ∧ Hid ((L.length : Int) ≤ most) ∧ Hid (sumL L ≤ totC (S.take j)) ∧ Hid (z ≤ 8271 * j) ∧ Hid (0 ≤ y ∧ y ≤ 8271 * (j : Int)) ∧ Hid (Sol 1048576 (3 * j) kN h A L z) ∧ Hid (Tri w2.heap.size b0 d kN most h A L b2 most L y wr) ∧ Hid (Below w2.heap.size w2 wr))
  case atStart => exact ⟨0, [], newH 1048576, [], 0, 0, by omega, rfl, Lib.hid ⟨by simp, by simp, by simp⟩, Lib.hid (by simp; omega), Lib.hid (by simp [sumL]), Lib.hid (by omega), Lib.hid (by omega), HSo0, hT0, HB5⟩
  case round =>
    obtain ⟨j, L, h, A, z, y, hjg, rfl, HBd, HLm, HSu, HZ, HY, HSo, HT, HBr⟩ := hrel
    have hbs := HBr.out.size
    have HBw := Lib.hid (show Below w.heap.size w wr from HB2.out.trans (HBr.out.mono hws))
    by_cases hj : j < S.length
    · have hjI : (j : Int) < (S.length : Int) := by omega
      obtain ⟨g0, off, rfl⟩ := hp (by omega)
      obtain ⟨x, hx⟩ : ∃ x, x = S[j] := ⟨_, rfl⟩
      have hxi : S[j]? = some x := by rw [List.getElem?_eq_getElem hj, hx]
      obtain ⟨hg, q0, q1, q2, q3, q4, q5, q6⟩ := HqS.out.cellsC hxi
      have e0 := (HBw.out.cell (p := ⟨g0, off + j * 7, none⟩) hg).trans q0
      have e1 := (HBw.out.cell (p := ⟨g0, off + j * 7 + 1, none⟩) hg).trans q1
      have e2 := (HBw.out.cell (p := ⟨g0, off + j * 7 + 2, none⟩) hg).trans q2
      have e3 := (HBw.out.cell (p := ⟨g0, off + j * 7 + 3, none⟩) hg).trans q3
      have e4 := (HBw.out.cell (p := ⟨g0, off + j * 7 + 4, none⟩) hg).trans q4
      have e5 := (HBw.out.cell (p := ⟨g0, off + j * 7 + 5, none⟩) hg).trans q5
      have e6 := (HBw.out.cell (p := ⟨g0, off + j * 7 + 6, none⟩) hg).trans q6
      have hxz := HTot.out x (by rw [hx]; exact List.getElem_mem hj)
      have HTk := Lib.hid (show totC (S.take (j + 1)) = totC (S.take j) + (x.key.size + x.val.size) from by rw [List.take_add_one, hxi]; exact totC_snoc _ _)
      clear q0 q1 q2 q3 q4 q5 q6 hx hxi
      have Hsz := Lib.hid (show x.key.size ≤ 4096 ∧ x.val.size ≤ 4096 from ⟨by omega, by omega⟩)
      have hl60 : L.length ≤ 60 := by have := HBd.out.l; omega
      have hcost := cost_of HBd.out hl60 HLm.out (Nat.le_trans HSu.out (tot_take S j HTo.out)) x hxz
      have hfit1 : ¬ noFit L most (1048576 - (z : Int)) x := hcost.fit (by have := HZ.out; omega)
      have hfit2 : ¬ noFit L most 1048576 x := hcost.fit (by omega)
      obtain ⟨hbB, hbh⟩ := boxC wr x
      have HBd4 := Lib.hid (HBr.out.trans (hbB.mono hbs))
      have HDo := Lib.hid (does_tri (HT.out.below hbB) (Nat.le_trans hbs hbB.size) HSo.out (by omega) kN_good kN_new (HBd.out.mono (by omega)) (HBd.out.mono (by omega)) hmm hmm (by have := HY.out; omega) x Hsz.out.1 Hsz.out.2 1048576)
      obtain ⟨f1, f2⟩ := fit_same (z := (z : Int)) (z2 := y) hfit1 hfit2
      have HBd1 := Lib.hid (ref_bd HBd.out most y 1048576 x Hsz.out.1 Hsz.out.2)
      have HL1 := Lib.hid (ref_len (fun e he => (HBd.out.s e he).1) most y 1048576 x hmm.1 HLm.out Hsz.out.1 Hsz.out.2)
      have HSu1 := Lib.hid (show sumL (refOut L most y 1048576 x).2.1 ≤ totC (S.take (j + 1)) from by
        have h1 := ref_sum (fun e he => (HBd.out.s e he).1) most y 1048576 x (by omega) (by omega)
        have h2 := HSu.out
        rw [HTk.out]; omega)
      have HZ1 := Lib.hid (show 0 ≤ (refOut L most (z : Int) (1048576 - (z : Int)) x).2.2 ∧ (refOut L most (z : Int) (1048576 - (z : Int)) x).2.2 ≤ (z : Int) + 8271 from hcost.z _ _ (by omega))
      have HY1 := Lib.hid (show 0 ≤ (refOut L most y 1048576 x).2.2 ∧ (refOut L most y 1048576 x).2.2 ≤ y + 8271 from hcost.z _ _ HY.out.1)
      rw [f1, f2] at HDo
      generalize (refOut L most (z : Int) (1048576 - (z : Int)) x).2.2 = z9 at HZ1 HDo
      clear f1 f2 hfit1 hfit2 hcost
      generalize refOut L most y 1048576 x = o1 at *
      obtain ⟨er, L1, y1⟩ := o1
      obtain ⟨kd, key, val, nn, fu, kp, tn⟩ := x
      obtain ⟨wb, hwb⟩ : ∃ x, x = wr.alloc (.cells (clA ⟨kd, key, val, nn, fu, kp, tn⟩) 36) := ⟨_, rfl⟩
      rw [← hwb] at HDo HBd4 hbh
      unfold clA at hwb hbh
      unfold cA clA at HDo
      try dsimp only at e0 e1 e2 e3 e4 e5 e6 HDo HBd1 HL1 HSu1 HY1 hbh
      have d0 := block_cell hbh 0
      have d1 := block_cell hbh 1
      have d2 := block_cell hbh 2
      have d3 := block_cell hbh 3
      have d4 := block_cell hbh 4
      have d5 := block_cell hbh 5
      have d6 := block_cell hbh 6
      clear HTk hxz hg hbB hbh hl60
      go_upto_region 13 with fail
      try rw [← hwb]
      clear hwb e0 e1 e2 e3 e4 e5 e6
      go_wp2_with fail
      refine HDo.out.mono ?_
      rintro e wd ⟨rfl, ⟨h2, A2, z3, ht, hs, hz⟩, hB⟩
      try dsimp only at ht hs hz
      have HTn := Lib.hid ht
      have HSn := Lib.hid (hs.more (n2 := 3 * (j + 1)) (by omega))
      have HZn := Lib.hid (show z3 ≤ 8271 * (j + 1) from by have h1 := HZ1.out; have h2 := HZ.out; omega)
      have HYn := Lib.hid (show 0 ≤ y1 ∧ y1 ≤ 8271 * ((j + 1 : Nat) : Int) from by have h1 := HY1.out; have h2 := HY.out; omega)
      have HBn := Lib.hid (HBd4.out.trans hB)
      clear ht hs hz hB HDo d0 d1 d2 d3 d4 d5 d6
      go_wp2_with fail
      go_roundg (gk - 1)
      case measure => omega
      case rel => exact ⟨j + 1, L1, h2, A2, z3, y1, by omega, by go_num, HBd1, HL1, HSu1, HZn, HYn, HSn, HTn, HBn⟩
    · have hjI : ¬ (j : Int) < (S.length : Int) := by omega
      have Hj60 := Lib.hid (show j ≤ 60 by omega)
      have HSy := Lib.hid (tri_sync HT.out hbs HSo.out (by omega) kN_good)
      have hcost := cost_of HBd.out (by have := HBd.out.l; omega) HLm.out (Nat.le_trans HSu.out (tot_take S j HTo.out)) ⟨0, omB, ⟨#[49]⟩, 0, 0, 0, false⟩ (by decide)
      have hroom := Lib.hid (show (z : Int) + (bytesN (putRs L most omB ⟨#[49]⟩) : Int) ≤ 1048576 from by have h1 : bytesN (putRs L most omB ⟨#[49]⟩) ≤ 8271 := hcost.p; have := HZ.out; have := Hj60.out; omega)
      clear hcost HT HSo HSu HY
      go_wp2_with fail
      refine HSy.out.mono ?_
      rintro e wa ⟨rfl, ⟨h2, A2, ht, hs, hy⟩, hB⟩
      have HBa := Lib.hid (HBr.out.trans hB)
      have HPu := Lib.hid (tri_put ht HBa.out.size hs (by omega) kN_good hy HBd.out (by omega) hmm (kk := omB) (vv := ⟨#[49]⟩) (by decide) (by decide) hroom.out torn)
      unfold omB at HPu
      clear ht hs hy hB HSy hroom
      go_wp2_with fail
      refine HPu.out.mono ?_
      rintro e wb ⟨x, rfl, ⟨h3, A3, L', ht, htl, hok, hdn⟩, hB⟩
      have HBb := Lib.hid (HBa.out.trans hB)
      have HOf := Lib.hid (tri_off5 ht HBb.out.size torn htl hok hdn)
      clear ht htl hok hdn hB HPu HBa
      go_wp2_with fail
      refine HOf.out.mono ?_
      rintro e wc ⟨rfl, hx, hB⟩
      have HBc := Lib.hid (HBb.out.trans hB)
      have HDx0 := Lib.hid (hx.more (n2 := 400 + 3 * 0) (by omega))
      clear hx hB HOf HBb
      obtain ⟨gko, hgko⟩ : ∃ g, g = gk := ⟨_, rfl⟩
      obtain ⟨wo, hwo⟩ : ∃ x, x = wr := ⟨_, rfl⟩
      subst hgko hwo
      go_wp2_with fail
      go_loopg [12, 13, 20, 77] F.length (fun g _ _ _ iv wr => ∃ (i : Nat), i + g = F.length ∧ iv = .int .i64 i ∧ Hid (Dx w2.heap.size d (400 + 3 * i) b2 most L y kN L (fun h => h.left = 0) wr) ∧ Hid (Below w2.heap.size w2 wr))
      case atStart => exact ⟨0, by omega, rfl, HDx0, HBc⟩
      case round =>
        obtain ⟨i, hig, rfl, HDx, HBq⟩ := hrel
        have HBwq := Lib.hid (show Below w.heap.size w wr from HB2.out.trans (HBq.out.mono hws))
        have HOn := Lib.hid (dx_on HDx.out HBq.out.size)
        have HLl := Lib.hid (show L.length ≤ 1048576 by have := HBd.out.l; have := Hj60.out; omega)
        by_cases hi : i < F.length
        · have hiI : (i : Int) < (F.length : Int) := by omega
          obtain ⟨x, hx⟩ : ∃ x, F[i]? = some x := ⟨F[i], List.getElem?_eq_getElem hi⟩
          obtain ⟨gf, off, rfl, hg, hc⟩ := HpF.out i x hx
          have hxz := HzF.out x (List.mem_of_getElem? hx)
          have e0 := (HBwq.out.cell (p := ⟨gf, off + i, none⟩) hg).trans hc
          clear hx hc hg
          go_wp2_with fail
          refine HOn.out.mono ?_
          rintro e wa ⟨rfl, hx, hB⟩
          have HB6 := Lib.hid (HBq.out.trans hB)
          have HAr := Lib.hid (dx_arm hx HB6.out.size x keep torn hxz.2)
          clear hx hB HOn hxz e0
          go_wp2_with fail
          refine HAr.out.mono ?_
          rintro e wb ⟨rfl, hx, hB⟩
          have HB7 := Lib.hid (HB6.out.trans hB)
          have HOp := Lib.hid (dx_open hx HB7.out.size (by omega) kN_good kN_new most hmm)
          unfold kN at HOp
          clear hx hB HAr HB6
          go_wp2_with fail
          refine HOp.out.mono ?_
          rintro e wd ⟨ho, hB⟩
          have HB8 := Lib.hid (HB7.out.trans hB)
          clear hB HOp HB7
          rcases ho with ⟨b3, rfl, hx⟩ | ⟨rfl, hx⟩
          · have HDi := Lib.hid (tx_disarm hx HB8.out.size)
            clear hx
            go_wp2_with fail
            refine HDi.out.mono ?_
            rintro e we ⟨rfl, hx, hB⟩
            have HB9 := Lib.hid (HB8.out.trans hB)
            obtain ⟨ph, qh, hbx, hh⟩ := hx.has HBd.out (by have := Hj60.out; omega) HLl.out
            rw [decide_eq_true (show L = L from rfl)] at hh
            have HH := Lib.hid hh
            have HTx := Lib.hid hx
            have d1 := block_cell hbx 1
            rw [show (rsA most (.slice ph L.length qh) y)[1]? = some (.slice ph L.length qh) from rfl] at d1
            clear hbx hh hx hB HDi HB8
            go_wp2_with fail
            refine HH.out.mono ?_
            rintro e wf ⟨rfl, hB⟩
            have HB10 := Lib.hid (HB9.out.trans (hB.mono HB9.out.size))
            have HOf := Lib.hid (dx_off (HTx.out.below hB).dx HB10.out.size keep torn)
            clear hB d1 HH HTx HB9
            go_wp2_with fail
            refine HOf.out.mono ?_
            rintro e wg ⟨rfl, hx, hB⟩
            have HB11 := Lib.hid (HB10.out.trans hB)
            have HDn := Lib.hid (hx.more (n2 := 400 + 3 * (i + 1)) (by omega))
            clear hx hB HOf HB10
            go_wp2_with fail
            go_roundg (gk - 1)
            case measure => omega
            case rel => exact ⟨i + 1, by omega, by go_num, HDn, HB11⟩
          · have HDi := Lib.hid (dx_disarm hx HB8.out.size)
            clear hx
            go_wp2_with fail
            refine HDi.out.mono ?_
            rintro e we ⟨rfl, hx, hB⟩
            have HB9 := Lib.hid (HB8.out.trans hB)
            have HOf := Lib.hid (dx_off hx HB9.out.size keep torn)
            clear hx hB HDi HB8
            go_wp2_with fail
            refine HOf.out.mono ?_
            rintro e wg ⟨rfl, hx, hB⟩
            have HB11 := Lib.hid (HB9.out.trans hB)
            have HDn := Lib.hid (hx.more (n2 := 400 + 3 * (i + 1)) (by omega))
            clear hx hB HOf HB9
            go_wp2_with fail
            go_roundg (gk - 1)
            case measure => omega
            case rel => exact ⟨i + 1, by omega, by go_num, HDn, HB11⟩
        · have hiI : ¬ (i : Int) < (F.length : Int) := by omega
          go_wp2_with fail
          refine HOn.out.mono ?_
          rintro e wa ⟨rfl, hx, hB⟩
          have HB6 := Lib.hid (HBq.out.trans hB)
          have HOp := Lib.hid (dx_open0 hx HB6.out.size (by omega) kN_good kN_new most hmm)
          unfold kN at HOp
          clear hx hB HOn
          go_wp2_with fail
          refine HOp.out.mono ?_
          rintro e wd ⟨b3, rfl, hx, hB⟩
          have HB8 := Lib.hid (HB6.out.trans hB)
          obtain ⟨ph, qh, hbx, hh⟩ := hx.has HBd.out (by have := Hj60.out; omega) HLl.out
          rw [decide_eq_true (show L = L from rfl)] at hh
          have HH := Lib.hid hh
          have d1 := block_cell hbx 1
          rw [show (rsA most (.slice ph L.length qh) y)[1]? = some (.slice ph L.length qh) from rfl] at d1
          clear hbx hh hx hB HOp HB6
          go_wp2_with fail
          refine HH.out.mono ?_
          rintro e wf ⟨rfl, hB⟩
          have HB9 := Lib.hid (HB8.out.trans (hB.mono HB8.out.size))
          have HE := Lib.hid (show Below w.heap.size w wf from HB2.out.trans (HB9.out.mono hws))
          clear hB d1 HH HB8
          go_wp2_with fail
          go_ret
          exact ⟨rfl, HE.out⟩
end Go.Proofs.Ytbdlmdmbaajcmaa
