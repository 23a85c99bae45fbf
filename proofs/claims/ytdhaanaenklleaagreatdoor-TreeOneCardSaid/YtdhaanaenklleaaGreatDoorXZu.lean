/- TreeOne's walk. -/
import Derived.Test.YtdhaanaenklleaaGreatDoorQd
namespace Go.Proofs.YtdhaanaenklleaaGreatDoor
set_option linter.unusedVariables false
set_option linter.unusedSimpArgs false
open Go.ChangeShapes Go.WideShapes Go.ChangeAt Go.RowKit

set_option maxRecDepth 100000 in
set_option maxHeartbeats 1000000 in
theorem one8_walk {W : World} {a b : List Fil} {u v : Value} (hM : MaxAt W) (hK : S.KeysAt W) (ha : Rows W 2 filR u a) (hb : Rows W 2 filR v b) : Calls Tryz.prog 4 #[u, v] W (fun e w' => e = .returned (.bool true) ∧ Below W.heap.size W w') := by
  have HM := Lib.hid hM
  have HK := Lib.hid hK
  have Ha := Lib.hid ha
  have Hb := Lib.hid hb
  have hM1 := hM.1
  clear hM hK ha hb
  go_enter Tryz.func4, Tryz.ntmps4
  go_wp2_with fail
  refine (alive8_any W HK.out HM.out).mono ?_
  rintro e w1 ⟨rfl, hB1⟩
  have HB1 := Lib.hid hB1
  have HGa := Lib.hid (greatF_any u a 40 4096 w1 (Ha.out.below hB1) (by omega) (by omega))
  clear hB1
  go_wp2_with fail
  refine HGa.out.mono ?_
  rintro e w2 ⟨rfl, hB2⟩
  have HB2 := Lib.hid (HB1.out.trans (hB2.mono HB1.out.size))
  clear hB2 HGa HB1
  cases hga : greatF a 40 4096 with
  | true =>
    clear hga
    go_wp2_with fail
    go_ret
    exact ⟨rfl, HB2.out⟩
  | false =>
  obtain ⟨hla, hsa⟩ := greatF_no hga
  have HGb := Lib.hid (greatF_any v b 40 4096 w2 (Hb.out.below HB2.out) (by omega) (by omega))
  clear hga
  go_wp2_with fail
  refine HGb.out.mono ?_
  rintro e w3 ⟨rfl, hB3⟩
  have HB3 := Lib.hid (HB2.out.trans (hB3.mono HB2.out.size))
  clear hB3 HGb HB2
  cases hgb : greatF b 40 4096 with
  | true =>
    clear hgb
    go_wp2_with fail
    go_ret
    exact ⟨rfl, HB3.out⟩
  | false =>
  obtain ⟨hlb, hsb⟩ := greatF_no hgb
  have Hsa := Lib.hid (sum_size hsa)
  have Hsb := Lib.hid (sum_size hsb)
  have HWa := Lib.hid (why_any u a w3 (Ha.out.below HB3.out) (fun x hx => by have := Hsa.out x hx; omega) (by omega))
  clear hgb hsa hsb
  go_wp2_with fail
  refine HWa.out.mono ?_
  rintro e w4 ⟨rfl, hB4⟩
  have HB4 := Lib.hid (HB3.out.trans (hB4.mono HB3.out.size))
  clear hB4 HWa HB3
  by_cases hwa : whyF a = 0
  case neg =>
    have hne : (whyF a != 0) = true := by rw [bne_iff_ne]; exact hwa
    clear hwa
    generalize whyF a = ya at *
    go_wp2_with fail
    go_ret
    exact ⟨rfl, HB4.out⟩
  have Hwa := Lib.hid hwa
  rw [hwa]
  have HWb := Lib.hid (why_any v b w4 (Hb.out.below HB4.out) (fun x hx => by have := Hsb.out x hx; omega) (by omega))
  clear hwa
  go_wp2_with fail
  refine HWb.out.mono ?_
  rintro e w5 ⟨rfl, hB5⟩
  have HB5 := Lib.hid (HB4.out.trans (hB5.mono HB4.out.size))
  clear hB5 HWb HB4
  by_cases hwb : whyF b = 0
  case neg =>
    have hne : (whyF b != 0) = true := by rw [bne_iff_ne]; exact hwb
    clear hwb
    generalize whyF b = yb at *
    go_wp2_with fail
    go_ret
    exact ⟨rfl, HB5.out⟩
  have Hwb := Lib.hid hwb
  rw [hwb]
  clear hwb
  obtain ⟨up, un, uc, hu⟩ : ∃ p n c, u = .slice p n c := by
    obtain ⟨p, c, e, -⟩ := Ha.out.elem rfl
    exact ⟨p, _, c, e⟩
  obtain ⟨vp, vn, vc, hv⟩ : ∃ p n c, v = .slice p n c := by
    obtain ⟨p, c, e, -⟩ := Hb.out.elem rfl
    exact ⟨p, _, c, e⟩
  subst hu
  subst hv
  have hBc := (Below.refl w5.heap.size w5).alloc (Nat.le_refl _) (.cells #[.slice up un uc, .slice vp vn vc] 22)
  have HBc := Lib.hid (HB5.out.trans (hBc.mono HB5.out.size))
  have HCl := Lib.hid (clash11_any w5.heap.size 2 2 [.slice up un uc, .slice vp vn vc] [a, b] (w5.alloc (.cells #[.slice up un uc, .slice vp vn vc] 22)) (heap_alloc_new w5 _) rfl rfl (by simp) (Nat.le_refl _) (by decide)
    (fun k h1 h2 => by
      match k, h1 with
      | 0, _ => exact Ha.out.below HBc.out
      | 1, _ => exact Hb.out.below HBc.out)
    (fun x hx => by
      rcases List.mem_cons.1 hx with rfl | hx
      · exact ⟨by omega, Hwa.out, fun y hy => (Hsa.out y hy).2⟩
      · rw [List.mem_singleton.1 hx]; exact ⟨by omega, Hwb.out, fun y hy => (Hsb.out y hy).2⟩))
  clear hBc
  go_upto_region 5 with fail
  refine wp_region_lit ?_
  refine wp_move rfl (.tmp 0) rfl (.slice up un uc) rfl ?_
  simp only [Act.put, List.setIfInBounds_toArray, List.set_cons_succ, List.set_cons_zero]
  refine wp_move rfl (.tmp 1) rfl (.slice vp vn vc) rfl ?_
  simp only [Act.put, List.setIfInBounds_toArray, List.set_cons_succ, List.set_cons_zero]
  refine wp_bslice rfl rfl (ps := #[(0, .slice up un uc), (1, .slice vp vn vc)]) (by simp only [List.map_toArray, List.map_cons, List.map_nil]; rfl) (slice_two28 w5 up vp un vn uc vc) ?_
  simp only [Act.put, List.setIfInBounds_toArray, List.set_cons_succ, List.set_cons_zero]
  generalize hw5a : w5.alloc (.cells #[.slice up un uc, .slice vp vn vc] 22) = w5a at *
  refine wp_call rfl 11 #[.tmp 34] #[28] rfl #[.slice (some ⟨w5.heap.size, 0, none⟩) 2 2] (enters_of Tryz.func11 (by kernel_rfl) rfl) (by simp only [List.map_toArray, List.map_cons, List.map_nil]; rfl) (φ := fun v5 x => ClEnd [a, b] w5a (.returned v5) x) (HCl.out.mono (fun e x h5 => by obtain ⟨r, h6, h7⟩ := h5; exact ⟨_, h6, r, rfl, h7⟩)) ?_
  rintro v5 w6 ⟨r, hv5, hr, hB6⟩
  injection hv5 with hv5
  subst hv5
  simp only [Act.put, List.setIfInBounds_toArray, List.set_cons_succ, List.set_cons_zero]
  have Hr := Lib.hid hr
  have HB6 := Lib.hid (HBc.out.trans (hB6.mono HBc.out.size))
  clear hr hB6 HCl hw5a
  cases r with
  | true =>
    go_wp2_with fail
    go_ret
    exact ⟨rfl, HB6.out⟩
  | false =>
  obtain ⟨A, hNT, hPI⟩ := Hr.out rfl
  have HNT := Lib.hid hNT
  have HPa := Lib.hid (hPI a List.mem_cons_self)
  have HPb := Lib.hid (hPI b (List.mem_cons_of_mem _ List.mem_cons_self))
  have HSa := Lib.hid (sorted15_any (.slice up un uc) a w6 (LAt.ofRows (by decide) filR_eq (Ha.out.below HB6.out)) (by omega) (fun x hx => by have := Hsa.out x hx; omega))
  clear hNT hPI Hr
  go_wp2_with fail
  refine HSa.out.mono ?_
  rintro e w7 ⟨vo1, O1, rfl, hp1, hs1, hown1, hB7⟩
  have HB7 := Lib.hid (HB6.out.trans (hB7.mono HB6.out.size))
  have HI1 := Lib.hid (putin_in HPa.out (by omega) hp1 hs1)
  have Hp1 := Lib.hid hp1
  have HSb := Lib.hid (sorted15_any (.slice vp vn vc) b w7 (LAt.ofRows (by decide) filR_eq (Hb.out.below HB7.out)) (by omega) (fun x hx => by have := Hsb.out x hx; omega))
  have Hown1 := Lib.hid hown1
  clear hp1 hs1 hown1 hB7 HSa
  go_wp2_with fail
  refine HSb.out.mono ?_
  rintro e w8 ⟨vo2, O2, rfl, hp2, hs2, hown2, hB8⟩
  have HB8 := Lib.hid (HB7.out.trans (hB8.mono HB7.out.size))
  have HI2 := Lib.hid (putin_in HPb.out (by omega) hp2 hs2)
  have Hp2 := Lib.hid hp2
  have HL1 := Lib.hid (LAt.own (e := 44) (fun x _ => filV_len x) (gen_own_below Hown1.out hB8))
  have HL2 := Lib.hid (LAt.own (e := 44) (fun x _ => filV_len x) hown2)
  obtain ⟨p1, c1, hv1⟩ := own_slice2 Hown1.out
  obtain ⟨p2, c2, hv2⟩ := own_slice2 hown2
  obtain ⟨n1, hn1⟩ : ∃ n, n = O1.length := ⟨_, rfl⟩
  obtain ⟨n2, hn2⟩ : ∃ n, n = O2.length := ⟨_, rfl⟩
  rw [← hn1] at hv1
  rw [← hn2] at hv2
  have Hn1 := Lib.hid hn1
  have Hn2 := Lib.hid hn2
  have Hz1 := Lib.hid (show ∀ x ∈ O1, x.1.size ≤ 1073741824 ∧ x.2.1.size ≤ 1073741824 from fun x hx => by have := Hsa.out x (Hp1.out.mem_iff.1 hx); omega)
  have Hz2 := Lib.hid (show ∀ x ∈ O2, x.1.size ≤ 1073741824 ∧ x.2.1.size ≤ 1073741824 from fun x hx => by have := Hsb.out x (Hp2.out.mem_iff.1 hx); omega)
  subst hv1
  subst hv2
  have hn60 : n1 ≤ 60 := by rw [hn1]; have := HI1.out.n; exact this
  clear hp2 hs2 hown2 hB8 HSb Hown1 hn1 hn2
  obtain ⟨s0, hs0⟩ : ∃ s, s = decide (n1 = n2) := ⟨_, rfl⟩
  have hs0I : ((n1 : Int) == (n2 : Int)) = s0 := by
    rw [hs0, Bool.eq_iff_iff, beq_iff_eq, decide_eq_true_iff]; omega
  have Hs0 := Lib.hid hs0
  clear hs0
  go_wp2_with fail
  go_loopg [7, 8] n1 (fun g sv iv wr => ∃ (i : Nat) (s : Bool), i + g = n1 ∧ iv = .int .i64 i ∧ sv = .bool s ∧ (s = true → n1 = n2 ∧ O1.take i = O2.take i) ∧ (s = false → O1 ≠ O2) ∧ Below w8.heap.size w8 wr)
  case atStart => exact ⟨0, s0, by omega, rfl, rfl, fun h => ⟨of_decide_eq_true (Hs0.out.symm.trans h), by simp⟩, fun h e => by
    have h1 := of_decide_eq_false (Hs0.out.symm.trans h)
    rw [Hn1.out, Hn2.out, e] at h1
    exact h1 rfl, Below.refl _ _⟩
  case round =>
    obtain ⟨i, s, hig, rfl, rfl, hst, hsf, hBw⟩ := hrel
    have Hst := Lib.hid hst
    have Hsf := Lib.hid hsf
    have Hig := Lib.hid hig
    have HBr := Lib.hid (HB8.out.trans (hBw.mono HB8.out.size))
    have HBw := Lib.hid hBw
    clear hst hsf hBw
    by_cases hlt : i < n1
    · have hltI : (i : Int) < (n1 : Int) := by omega
      cases s with
      | true =>
        obtain ⟨h12, htk⟩ := Hst.out rfl
        have hi1 : i < O1.length := by have := Hn1.out; omega
        have hi2 : i < O2.length := by have := Hn2.out; omega
        obtain ⟨ga, oa, rfl, hga, hca, hma, hra⟩ := lat_at HL1.out (by omega)
        obtain ⟨gb, ob, rfl, hgb, hcb, hmb, hrb⟩ := lat_at HL2.out (by omega)
        have hxa := hra i hi1
        have hxb := hrb i hi2
        have hza := Hz1.out _ (List.getElem_mem hi1)
        have hzb := Hz2.out _ (List.getElem_mem hi2)
        have Hnx := Lib.hid (fun (h : O1[i] = O2[i]) => (by rw [List.take_succ_eq_append_getElem hi1, List.take_succ_eq_append_getElem hi2, htk, h] : O1.take (i + 1) = O2.take (i + 1)))
        have Hne := Lib.hid (fun (h : O1[i] ≠ O2[i]) (e : O1 = O2) => h (by simp only [e]))
        obtain ⟨x, hx⟩ : ∃ x, x = O1[i] := ⟨_, rfl⟩
        obtain ⟨y, hy⟩ : ∃ x, x = O2[i] := ⟨_, rfl⟩
        rw [← hx] at hxa hza Hnx Hne
        rw [← hy] at hxb hzb Hnx Hne
        have HQ1 := Lib.hid (fun w1 (h1 : Below wr.heap.size wr w1) => run_loadVar_mid (P := Tryz.prog) w1 ga (oa + i * 2) 44 (filV x) _ (range_below hga hxa (HBw.out.trans (h1.mono HBw.out.size))) Tryz.underlying44 rfl (by rw [filV_len]; kernel_rfl))
        have HQ2 := Lib.hid (fun w1 (h1 : Below wr.heap.size wr w1) => run_loadVar_mid (P := Tryz.prog) w1 gb (ob + i * 2) 44 (filV y) _ (range_below hgb hxb (HBw.out.trans (h1.mono HBw.out.size))) Tryz.underlying44 rfl (by rw [filV_len]; kernel_rfl))
        have heq := fun v1 => eq_fil hza hzb v1
        obtain ⟨r, hr⟩ : ∃ r, r = decide (x = y) := ⟨_, rfl⟩
        rw [← hr] at heq
        have Hr := Lib.hid hr
        have hltI2 : (i : Int) < (n2 : Int) := by omega
        have H12 := Lib.hid h12
        clear hxa hxb hra hrb hx hy hr h12 htk hza hzb
        go_wp2_with fail
        refine wp_region_class (Below wr.heap.size wr) (by kernel_rfl) (by kernel_rfl) (Below.refl _ _).drew ?_
        repeat (go_big_quiet_step (first | (intro _; rfl)))
        refine wpQuiet_load_at rfl 44 (.tmp 56) rfl ⟨ga, oa + i * 2, none⟩ rfl (.agg (filV x).toArray) HQ1.out ?_
        simp only [Act.put, List.setIfInBounds_toArray, List.set_cons_succ, List.set_cons_zero]
        repeat (go_big_quiet_step (first | (intro _; rfl)))
        refine wpQuiet_load_at rfl 44 (.tmp 60) rfl ⟨gb, ob + i * 2, none⟩ rfl (.agg (filV y).toArray) HQ2.out ?_
        simp only [Act.put, List.setIfInBounds_toArray, List.set_cons_succ, List.set_cons_zero]
        repeat (go_big_quiet_step (first | (intro _; rfl)))
        refine wpQuiet_nil ?_
        intro w5 hBq
        have HBq := Lib.hid (HBw.out.trans (hBq.mono HBw.out.size))
        clear hBq heq
        go_wp2_with fail
        go_roundg (gk - 1)
        case measure => have := Hig.out; omega
        case rel =>
          have hig := Hig.out
          exact ⟨i + 1, r, by omega, by go_num, rfl, fun h => ⟨H12.out, Hnx.out (of_decide_eq_true (Hr.out.symm.trans h))⟩, fun h => Hne.out (of_decide_eq_false (Hr.out.symm.trans h)), HBq.out⟩
      | false =>
        have hfin := Hsf.out rfl
        go_wp2_with fail
        refine (new_any wr).mono ?_
        rintro e w9 ⟨b1, rfl, hS1, hB9⟩
        have hsr := HBr.out.size
        have hs9 := hB9.size
        have hTs : ∃ T1 : Nat → Prop, (∀ q, T1 q → W.heap.size ≤ q) ∧ Hav T1 (fun _ => False) b1 (fun _ => none) 0 [] [] 0 0 w9 := ⟨_, fun q hq => by have := hq.1; omega, hav_new (X := fun _ => False) (by omega) (fun q hq => hq.elim) hS1⟩
        obtain ⟨T1, hT1, hHa⟩ := hTs
        have HT1 := Lib.hid hT1
        have HH1 := Lib.hid hHa
        have HTl := Lib.hid (fun q (hq : T1 q) => ((hHa.lt q hq).2 : q < w9.heap.size))
        have HB9 := Lib.hid (HBr.out.trans (hB9.mono hsr))
        have HKx := Lib.hid (fun wx (hx : Below W.heap.size W wx) => (HK.out.below HK.out.1 (hx.mono (by omega)) : S.KeysAt wx))
        have HMx := Lib.hid (fun wx (hx : Below W.heap.size W wx) => HM.out.below hx)
        have HBu1 := Lib.hid (build_any HH1.out (HKx.out _ HB9.out) (HMx.out _ HB9.out) (.slice up un uc) a (Ha.out.below HB9.out) (by omega) (fun x hx => by have := Hsa.out x hx; omega) (fun _ x hx => (Hsa.out x hx).2) (by omega) (by omega))
        clear hS1 hsr hs9 hB9 hT1 hHa
        go_wp2_with fail
        refine HBu1.out.mono ?_
        rintro e w10 (⟨h, _⟩ | ⟨_, l1, hq1, hq2, hq3, rfl, nb1, nt1, hH8, hG8, hK8⟩)
        · exact absurd Hwa.out h
        obtain rfl : l1 = O1 := sorted_one (hq1.trans Hp1.out.symm) hq3 hq2 HI1.out.s
        have htl1 := bldt_len (n := 80) (low_top hq2 hq3)
        have hbn := hG8.lb
        have htn := hG8.lt
        have hll := HI1.out.n
        have hdl : (datF l1).length = l1.length := by unfold datF; rw [List.length_map]
        have hnb1 : nb1 ≤ 60 := by omega
        have hnt1 : nt1 ≤ 1000 := by omega
        have HB10 := Lib.hid (HB9.out.trans (hK8.below HT1.out HB9.out.size))
        have Hs910 := Lib.hid hK8.size
        obtain ⟨idA, hidA⟩ : ∃ y, y = tid (treeB (bldE 80 nilB l1)) := ⟨_, rfl⟩
        rw [← hidA]
        have HidA := Lib.hid hidA
        have HlidA := Lib.hid (show idA.length = 32 by rw [hidA]; exact tid_len _)
        have HzidA := Lib.hid (id_size HlidA.out)
        have HoneidA := Lib.hid (id_one idA)
        have HsidA := Lib.hid (show (bytV idA).toArray.size = 32 by rw [List.size_toArray, bytV_len, HlidA.out])
        have HHb := Lib.hid hH8
        clear hq1 hq2 hq3 hH8 hG8 hK8 htl1 hbn htn hll hdl hidA HBu1
        go_upto_region 15 with (first | (refine wpList_store_rowTo rfl 32 (.tmp 10) (.tmp 68) rfl rfl w10.heap.size (bytV idA).toArray rfl rfl 32 _ (heap_alloc_new w10 _) HzidA.out (by rw [HsidA.out]; rfl) HoneidA.out ?_))
        have hBx := below_setRow ((Below.refl w10.heap.size w10).alloc (Nat.le_refl _) (.cells #[.int .u8 0, .int .u8 0, .int .u8 0, .int .u8 0, .int .u8 0, .int .u8 0, .int .u8 0, .int .u8 0, .int .u8 0, .int .u8 0, .int .u8 0, .int .u8 0, .int .u8 0, .int .u8 0, .int .u8 0, .int .u8 0, .int .u8 0, .int .u8 0, .int .u8 0, .int .u8 0, .int .u8 0, .int .u8 0, .int .u8 0, .int .u8 0, .int .u8 0, .int .u8 0, .int .u8 0, .int .u8 0, .int .u8 0, .int .u8 0, .int .u8 0, .int .u8 0] 32)) (g := w10.heap.size) (Nat.le_refl _) (bytV idA).toArray
        have hGx := setRow_heap (w10.alloc (.cells #[.int .u8 0, .int .u8 0, .int .u8 0, .int .u8 0, .int .u8 0, .int .u8 0, .int .u8 0, .int .u8 0, .int .u8 0, .int .u8 0, .int .u8 0, .int .u8 0, .int .u8 0, .int .u8 0, .int .u8 0, .int .u8 0, .int .u8 0, .int .u8 0, .int .u8 0, .int .u8 0, .int .u8 0, .int .u8 0, .int .u8 0, .int .u8 0, .int .u8 0, .int .u8 0, .int .u8 0, .int .u8 0, .int .u8 0, .int .u8 0, .int .u8 0, .int .u8 0] 32)) w10.heap.size _ (bytV idA).toArray 32 (0, 0) (heap_alloc_new w10 _)
        generalize (w10.alloc (.cells #[.int .u8 0, .int .u8 0, .int .u8 0, .int .u8 0, .int .u8 0, .int .u8 0, .int .u8 0, .int .u8 0, .int .u8 0, .int .u8 0, .int .u8 0, .int .u8 0, .int .u8 0, .int .u8 0, .int .u8 0, .int .u8 0, .int .u8 0, .int .u8 0, .int .u8 0, .int .u8 0, .int .u8 0, .int .u8 0, .int .u8 0, .int .u8 0, .int .u8 0, .int .u8 0, .int .u8 0, .int .u8 0, .int .u8 0, .int .u8 0, .int .u8 0, .int .u8 0] 32)).setRow w10.heap.size (bytV idA).toArray = w10x at *
        have HG10 := Lib.hid hGx
        have HB11 := Lib.hid (HB10.out.trans (hBx.mono HB10.out.size))
        have HHc := Lib.hid (HHb.out.below0 hBx)
        have HBu2 := Lib.hid (build_any HHc.out (HKx.out _ HB11.out) (HMx.out _ HB11.out) (.slice vp vn vc) b (Hb.out.below HB11.out) (by omega) (fun x hx => by have := Hsb.out x hx; omega) (fun _ x hx => (Hsb.out x hx).2) (by omega) (by omega))
        clear hBx hGx
        go_wp2_with fail
        refine HBu2.out.mono ?_
        rintro e w12 (⟨h, _⟩ | ⟨_, l2, hq1, hq2, hq3, rfl, nb2, nt2, hH9, hG9, hK9⟩)
        · exact absurd Hwb.out h
        obtain rfl : l2 = O2 := sorted_one (hq1.trans Hp2.out.symm) hq3 hq2 HI2.out.s
        have HB12 := Lib.hid (HB11.out.trans (hK9.below HT1.out HB11.out.size))
        have HG12 := Lib.hid ((hK9.block _ (lt_of_block HG10.out) (fun hq => by have := HTl.out _ hq; have := Hs910.out; omega)).trans HG10.out)
        obtain ⟨idB, hidB⟩ : ∃ y, y = tid (treeB (bldE 80 nilB l2)) := ⟨_, rfl⟩
        rw [← hidB]
        have HidB := Lib.hid hidB
        have HlidB := Lib.hid (show idB.length = 32 by rw [hidB]; exact tid_len _)
        have HzidB := Lib.hid (id_size HlidB.out)
        have HoneidB := Lib.hid (id_one idB)
        have HsidB := Lib.hid (show (bytV idB).toArray.size = 32 by rw [List.size_toArray, bytV_len, HlidB.out])
        have hdec : decide (idA = idB) = false := by
          rw [decide_eq_false]
          intro e
          rw [HidA.out, HidB.out] at e
          exact hfin (bld_inj HNT.out HI1.out HI2.out e)
        have heq := fun v1 => eq_id (a := idA) (b := idB) HlidA.out HlidB.out v1
        rw [hdec] at heq
        clear hq1 hq2 hq3 hH9 hG9 hK9 hidB hdec HBu2 hnb1 hnt1
        go_upto_region 16 with (first | (refine wpList_store_rowTo rfl 32 (.tmp 12) (.tmp 74) rfl rfl w12.heap.size (bytV idB).toArray rfl rfl 32 _ (heap_alloc_new w12 _) HzidB.out (by rw [HsidB.out]; rfl) HoneidB.out ?_))
        have hBx := below_setRow ((Below.refl w12.heap.size w12).alloc (Nat.le_refl _) (.cells #[.int .u8 0, .int .u8 0, .int .u8 0, .int .u8 0, .int .u8 0, .int .u8 0, .int .u8 0, .int .u8 0, .int .u8 0, .int .u8 0, .int .u8 0, .int .u8 0, .int .u8 0, .int .u8 0, .int .u8 0, .int .u8 0, .int .u8 0, .int .u8 0, .int .u8 0, .int .u8 0, .int .u8 0, .int .u8 0, .int .u8 0, .int .u8 0, .int .u8 0, .int .u8 0, .int .u8 0, .int .u8 0, .int .u8 0, .int .u8 0, .int .u8 0, .int .u8 0] 32)) (g := w12.heap.size) (Nat.le_refl _) (bytV idB).toArray
        have hGx := setRow_heap (w12.alloc (.cells #[.int .u8 0, .int .u8 0, .int .u8 0, .int .u8 0, .int .u8 0, .int .u8 0, .int .u8 0, .int .u8 0, .int .u8 0, .int .u8 0, .int .u8 0, .int .u8 0, .int .u8 0, .int .u8 0, .int .u8 0, .int .u8 0, .int .u8 0, .int .u8 0, .int .u8 0, .int .u8 0, .int .u8 0, .int .u8 0, .int .u8 0, .int .u8 0, .int .u8 0, .int .u8 0, .int .u8 0, .int .u8 0, .int .u8 0, .int .u8 0, .int .u8 0, .int .u8 0] 32)) w12.heap.size _ (bytV idB).toArray 32 (0, 0) (heap_alloc_new w12 _)
        generalize (w12.alloc (.cells #[.int .u8 0, .int .u8 0, .int .u8 0, .int .u8 0, .int .u8 0, .int .u8 0, .int .u8 0, .int .u8 0, .int .u8 0, .int .u8 0, .int .u8 0, .int .u8 0, .int .u8 0, .int .u8 0, .int .u8 0, .int .u8 0, .int .u8 0, .int .u8 0, .int .u8 0, .int .u8 0, .int .u8 0, .int .u8 0, .int .u8 0, .int .u8 0, .int .u8 0, .int .u8 0, .int .u8 0, .int .u8 0, .int .u8 0, .int .u8 0, .int .u8 0, .int .u8 0] 32)).setRow w12.heap.size (bytV idB).toArray = w12x at *
        have HG12b := Lib.hid ((hBx.block _ (lt_of_block HG12.out)).trans HG12.out)
        have HG13 := Lib.hid hGx
        have HB13 := Lib.hid (HB12.out.trans (hBx.mono HB12.out.size))
        clear hBx hGx
        go_wp2_with (first | (refine wpList_load_row_g8 rfl 32 (.tmp 10) rfl w10.heap.size rfl 32 (bytV idA).toArray (0, 0) HG12b.out Tryz.underlying32 HzidA.out ?_) | (refine wpList_load_row_g8 rfl 32 (.tmp 12) rfl w12.heap.size rfl 32 (bytV idB).toArray (0, 0) HG13.out Tryz.underlying32 HzidB.out ?_))
        go_ret
        exact ⟨rfl, HB13.out⟩
    · have hnI : ¬ (i : Int) < (n1 : Int) := by omega
      have hfin : s = true ↔ O1 = O2 := ⟨fun h => by
        obtain ⟨h1, h2⟩ := Hst.out h
        rwa [List.take_of_length_le (by have := Hn1.out; omega), List.take_of_length_le (by have := Hn2.out; omega)] at h2, fun h => by
        cases hs : s with
        | true => rfl
        | false => exact absurd h (Hsf.out hs)⟩
      have hss : (s == s) = true := by cases s <;> rfl
      go_wp2_with fail
      refine (new_any wr).mono ?_
      rintro e w9 ⟨b1, rfl, hS1, hB9⟩
      have hsr := HBr.out.size
      have hs9 := hB9.size
      have hTs : ∃ T1 : Nat → Prop, (∀ q, T1 q → W.heap.size ≤ q) ∧ Hav T1 (fun _ => False) b1 (fun _ => none) 0 [] [] 0 0 w9 := ⟨_, fun q hq => by have := hq.1; omega, hav_new (X := fun _ => False) (by omega) (fun q hq => hq.elim) hS1⟩
      obtain ⟨T1, hT1, hHa⟩ := hTs
      have HT1 := Lib.hid hT1
      have HH1 := Lib.hid hHa
      have HTl := Lib.hid (fun q (hq : T1 q) => ((hHa.lt q hq).2 : q < w9.heap.size))
      have HB9 := Lib.hid (HBr.out.trans (hB9.mono hsr))
      have HKx := Lib.hid (fun wx (hx : Below W.heap.size W wx) => (HK.out.below HK.out.1 (hx.mono (by omega)) : S.KeysAt wx))
      have HMx := Lib.hid (fun wx (hx : Below W.heap.size W wx) => HM.out.below hx)
      have HBu1 := Lib.hid (build_any HH1.out (HKx.out _ HB9.out) (HMx.out _ HB9.out) (.slice up un uc) a (Ha.out.below HB9.out) (by omega) (fun x hx => by have := Hsa.out x hx; omega) (fun _ x hx => (Hsa.out x hx).2) (by omega) (by omega))
      clear hS1 hsr hs9 hB9 hT1 hHa
      go_wp2_with fail
      refine HBu1.out.mono ?_
      rintro e w10 (⟨h, _⟩ | ⟨_, l1, hq1, hq2, hq3, rfl, nb1, nt1, hH8, hG8, hK8⟩)
      · exact absurd Hwa.out h
      obtain rfl : l1 = O1 := sorted_one (hq1.trans Hp1.out.symm) hq3 hq2 HI1.out.s
      have htl1 := bldt_len (n := 80) (low_top hq2 hq3)
      have hbn := hG8.lb
      have htn := hG8.lt
      have hll := HI1.out.n
      have hdl : (datF l1).length = l1.length := by unfold datF; rw [List.length_map]
      have hnb1 : nb1 ≤ 60 := by omega
      have hnt1 : nt1 ≤ 1000 := by omega
      have HB10 := Lib.hid (HB9.out.trans (hK8.below HT1.out HB9.out.size))
      have Hs910 := Lib.hid hK8.size
      obtain ⟨idA, hidA⟩ : ∃ y, y = tid (treeB (bldE 80 nilB l1)) := ⟨_, rfl⟩
      rw [← hidA]
      have HidA := Lib.hid hidA
      have HlidA := Lib.hid (show idA.length = 32 by rw [hidA]; exact tid_len _)
      have HzidA := Lib.hid (id_size HlidA.out)
      have HoneidA := Lib.hid (id_one idA)
      have HsidA := Lib.hid (show (bytV idA).toArray.size = 32 by rw [List.size_toArray, bytV_len, HlidA.out])
      have HHb := Lib.hid hH8
      clear hq1 hq2 hq3 hH8 hG8 hK8 htl1 hbn htn hll hdl hidA HBu1
      go_upto_region 15 with (first | (refine wpList_store_rowTo rfl 32 (.tmp 10) (.tmp 68) rfl rfl w10.heap.size (bytV idA).toArray rfl rfl 32 _ (heap_alloc_new w10 _) HzidA.out (by rw [HsidA.out]; rfl) HoneidA.out ?_))
      have hBx := below_setRow ((Below.refl w10.heap.size w10).alloc (Nat.le_refl _) (.cells #[.int .u8 0, .int .u8 0, .int .u8 0, .int .u8 0, .int .u8 0, .int .u8 0, .int .u8 0, .int .u8 0, .int .u8 0, .int .u8 0, .int .u8 0, .int .u8 0, .int .u8 0, .int .u8 0, .int .u8 0, .int .u8 0, .int .u8 0, .int .u8 0, .int .u8 0, .int .u8 0, .int .u8 0, .int .u8 0, .int .u8 0, .int .u8 0, .int .u8 0, .int .u8 0, .int .u8 0, .int .u8 0, .int .u8 0, .int .u8 0, .int .u8 0, .int .u8 0] 32)) (g := w10.heap.size) (Nat.le_refl _) (bytV idA).toArray
      have hGx := setRow_heap (w10.alloc (.cells #[.int .u8 0, .int .u8 0, .int .u8 0, .int .u8 0, .int .u8 0, .int .u8 0, .int .u8 0, .int .u8 0, .int .u8 0, .int .u8 0, .int .u8 0, .int .u8 0, .int .u8 0, .int .u8 0, .int .u8 0, .int .u8 0, .int .u8 0, .int .u8 0, .int .u8 0, .int .u8 0, .int .u8 0, .int .u8 0, .int .u8 0, .int .u8 0, .int .u8 0, .int .u8 0, .int .u8 0, .int .u8 0, .int .u8 0, .int .u8 0, .int .u8 0, .int .u8 0] 32)) w10.heap.size _ (bytV idA).toArray 32 (0, 0) (heap_alloc_new w10 _)
      generalize (w10.alloc (.cells #[.int .u8 0, .int .u8 0, .int .u8 0, .int .u8 0, .int .u8 0, .int .u8 0, .int .u8 0, .int .u8 0, .int .u8 0, .int .u8 0, .int .u8 0, .int .u8 0, .int .u8 0, .int .u8 0, .int .u8 0, .int .u8 0, .int .u8 0, .int .u8 0, .int .u8 0, .int .u8 0, .int .u8 0, .int .u8 0, .int .u8 0, .int .u8 0, .int .u8 0, .int .u8 0, .int .u8 0, .int .u8 0, .int .u8 0, .int .u8 0, .int .u8 0, .int .u8 0] 32)).setRow w10.heap.size (bytV idA).toArray = w10x at *
      have HG10 := Lib.hid hGx
      have HB11 := Lib.hid (HB10.out.trans (hBx.mono HB10.out.size))
      have HHc := Lib.hid (HHb.out.below0 hBx)
      have HBu2 := Lib.hid (build_any HHc.out (HKx.out _ HB11.out) (HMx.out _ HB11.out) (.slice vp vn vc) b (Hb.out.below HB11.out) (by omega) (fun x hx => by have := Hsb.out x hx; omega) (fun _ x hx => (Hsb.out x hx).2) (by omega) (by omega))
      clear hBx hGx
      go_wp2_with fail
      refine HBu2.out.mono ?_
      rintro e w12 (⟨h, _⟩ | ⟨_, l2, hq1, hq2, hq3, rfl, nb2, nt2, hH9, hG9, hK9⟩)
      · exact absurd Hwb.out h
      obtain rfl : l2 = O2 := sorted_one (hq1.trans Hp2.out.symm) hq3 hq2 HI2.out.s
      have HB12 := Lib.hid (HB11.out.trans (hK9.below HT1.out HB11.out.size))
      have HG12 := Lib.hid ((hK9.block _ (lt_of_block HG10.out) (fun hq => by have := HTl.out _ hq; have := Hs910.out; omega)).trans HG10.out)
      obtain ⟨idB, hidB⟩ : ∃ y, y = tid (treeB (bldE 80 nilB l2)) := ⟨_, rfl⟩
      rw [← hidB]
      have HidB := Lib.hid hidB
      have HlidB := Lib.hid (show idB.length = 32 by rw [hidB]; exact tid_len _)
      have HzidB := Lib.hid (id_size HlidB.out)
      have HoneidB := Lib.hid (id_one idB)
      have HsidB := Lib.hid (show (bytV idB).toArray.size = 32 by rw [List.size_toArray, bytV_len, HlidB.out])
      have hdec : decide (idA = idB) = s := by
        by_cases he : l1 = l2
        · rw [hfin.2 he, decide_eq_true]
          rw [HidA.out, HidB.out, he]
        · have h9 : s = false := by
            cases hs : s with
            | true => exact absurd (hfin.1 hs) he
            | false => rfl
          rw [h9, decide_eq_false]
          intro e
          rw [HidA.out, HidB.out] at e
          exact he (bld_inj HNT.out HI1.out HI2.out e)
      have heq := fun v1 => eq_id (a := idA) (b := idB) HlidA.out HlidB.out v1
      rw [hdec] at heq
      clear hq1 hq2 hq3 hH9 hG9 hK9 hidB hdec HBu2 hnb1 hnt1
      go_upto_region 16 with (first | (refine wpList_store_rowTo rfl 32 (.tmp 12) (.tmp 74) rfl rfl w12.heap.size (bytV idB).toArray rfl rfl 32 _ (heap_alloc_new w12 _) HzidB.out (by rw [HsidB.out]; rfl) HoneidB.out ?_))
      have hBx := below_setRow ((Below.refl w12.heap.size w12).alloc (Nat.le_refl _) (.cells #[.int .u8 0, .int .u8 0, .int .u8 0, .int .u8 0, .int .u8 0, .int .u8 0, .int .u8 0, .int .u8 0, .int .u8 0, .int .u8 0, .int .u8 0, .int .u8 0, .int .u8 0, .int .u8 0, .int .u8 0, .int .u8 0, .int .u8 0, .int .u8 0, .int .u8 0, .int .u8 0, .int .u8 0, .int .u8 0, .int .u8 0, .int .u8 0, .int .u8 0, .int .u8 0, .int .u8 0, .int .u8 0, .int .u8 0, .int .u8 0, .int .u8 0, .int .u8 0] 32)) (g := w12.heap.size) (Nat.le_refl _) (bytV idB).toArray
      have hGx := setRow_heap (w12.alloc (.cells #[.int .u8 0, .int .u8 0, .int .u8 0, .int .u8 0, .int .u8 0, .int .u8 0, .int .u8 0, .int .u8 0, .int .u8 0, .int .u8 0, .int .u8 0, .int .u8 0, .int .u8 0, .int .u8 0, .int .u8 0, .int .u8 0, .int .u8 0, .int .u8 0, .int .u8 0, .int .u8 0, .int .u8 0, .int .u8 0, .int .u8 0, .int .u8 0, .int .u8 0, .int .u8 0, .int .u8 0, .int .u8 0, .int .u8 0, .int .u8 0, .int .u8 0, .int .u8 0] 32)) w12.heap.size _ (bytV idB).toArray 32 (0, 0) (heap_alloc_new w12 _)
      generalize (w12.alloc (.cells #[.int .u8 0, .int .u8 0, .int .u8 0, .int .u8 0, .int .u8 0, .int .u8 0, .int .u8 0, .int .u8 0, .int .u8 0, .int .u8 0, .int .u8 0, .int .u8 0, .int .u8 0, .int .u8 0, .int .u8 0, .int .u8 0, .int .u8 0, .int .u8 0, .int .u8 0, .int .u8 0, .int .u8 0, .int .u8 0, .int .u8 0, .int .u8 0, .int .u8 0, .int .u8 0, .int .u8 0, .int .u8 0, .int .u8 0, .int .u8 0, .int .u8 0, .int .u8 0] 32)).setRow w12.heap.size (bytV idB).toArray = w12x at *
      have HG12b := Lib.hid ((hBx.block _ (lt_of_block HG12.out)).trans HG12.out)
      have HG13 := Lib.hid hGx
      have HB13 := Lib.hid (HB12.out.trans (hBx.mono HB12.out.size))
      clear hBx hGx
      go_wp2_with (first | (refine wpList_load_row_g8 rfl 32 (.tmp 10) rfl w10.heap.size rfl 32 (bytV idA).toArray (0, 0) HG12b.out Tryz.underlying32 HzidA.out ?_) | (refine wpList_load_row_g8 rfl 32 (.tmp 12) rfl w12.heap.size rfl 32 (bytV idB).toArray (0, 0) HG13.out Tryz.underlying32 HzidB.out ?_))
      go_ret
      exact ⟨rfl, HB13.out⟩
end Go.Proofs.YtdhaanaenklleaaGreatDoor
