/- The document's device: Rename, Append. -/
import Derived.Test.YtfmcemedaehcoaaXi
namespace Go.Proofs.Ytfmcemedaehcoaa
set_option linter.unusedVariables false
set_option linter.unusedSimpArgs false
open Go.ChangeShapes Go.WideShapes Go.ChangeAt Go.RowKit Go.ChangeMaps

set_option maxRecDepth 100000 in
set_option maxHeartbeats 4000000 in
theorem renameR_any {S : Nat → Prop} {w0 : World} {b : Nat} {h : Hd} {A : List Ab} {w : World} (d : Rd S w0 b h A w) (hS : ∀ k, S k → k < w0.heap.size) (hok : ROk h A) (x z : ByteArray) :
    Calls Try.prog 35 #[.pointer (some ⟨b, 0, none⟩), .string x, .string z] w fun e w' => e = .returned (.int .i64 (stepR h A (renR A x z) (if findA h A x ≠ 0 then findA h A x else if goodN z = true then 0 else 1) 1).1) ∧ Rd S w0 b (stepR h A (renR A x z) (if findA h A x ≠ 0 then findA h A x else if goodN z = true then 0 else 1) 1).2.1 (stepR h A (renR A x z) (if findA h A x ≠ 0 then findA h A x else if goodN z = true then 0 else 1) 1).2.2 w' := by
  have HM := Lib.hid (may_there d hok.n' x)
  have D := Lib.hid d
  have HGd := Lib.hid (fun w1 => good_any z w1)
  by_cases hf : findA h A x = 0
  · obtain ⟨hdn, hgx, i, hi, hidx, hlk, hyx⟩ := findA_ok hf
    rw [if_neg (by simp [hf])]
    rw [hf] at HM
    by_cases hgz : goodN z = true
    · rw [if_pos hgz, stepR_ends rfl]
      rw [hgz] at HGd
      have HBe := Lib.hid (fun w1 (hB : Below w.heap.size w w1) => begins_any (d.below hB) hok.hd.left hok.hd.acts)
      obtain ⟨y, hy⟩ : ∃ y, A[i] = y := ⟨_, rfl⟩
      have HY := Lib.hid hy
      have HIdx := Lib.hid hidx
      rw [hy] at hlk hyx
      have HA1 : Hid (putR (drpA A x) (z, y.2.1, y.2.2) = renR A x z) := Lib.hid (by unfold renR; rw [hlk])
      have hysf : y.2.2 ≤ y.2.1.length := hok.s y (lookA_some hlk).1
      have htl := tot_drp_look hlk
      have hnd : (drpA A x).length ≤ 1048576 := by have := drpA_len A x; have := hok.n; omega
      have HN1 : Hid ((renR A x z).length ≤ 1048576) := Lib.hid (by rw [← HA1.out]; have := putR_len (z, y.2.1, y.2.2) (drpA A x); have := drpA_len A x; have := hok.n; omega)
      have HT1 : Hid (totA (renR A x z) ≤ 1048576) := Lib.hid (by rw [← HA1.out, tot_putR]; have := @tot_drp (drpA A x) z; have := hok.t; simp only; omega)
      have HS1 : Hid (∀ y ∈ renR A x z, y.2.2 ≤ y.2.1.length) := Lib.hid (by rw [← HA1.out]; exact safe_putR (fun q hq => hok.s q (drpA_mem.1 hq).1) hysf)
      have hdn2 : (actH h).down = false := hdn
      generalize decide (h.left = 1) = gs at *
      generalize doneR h = dn at *
      clear hf d hlk hyx hy hidx htl
      cases dn <;> cases gs
      · go_enter Try.func35, Try.ntmps35
        go_wp2_with fail
        refine HM.out.mono ?_
        rintro e w1 ⟨rfl, hB⟩
        have HB1 := Lib.hid hB
        clear hB
        go_wp2_with fail
        refine (HGd.out _).mono ?_
        rintro e w1b ⟨rfl, rfl⟩
        go_wp2_with fail
        refine (HBe.out _ HB1.out).mono ?_
        rintro e w2 ⟨rfl, d2, _⟩
        have D2 := Lib.hid d2
        clear d2
        go_wp2_with fail
        refine (ends_any D2.out hdn2 hok.n' hok.t hok.s hok.k false).mono ?_
        rintro e w8 ⟨rfl, d8⟩
        have D8 := Lib.hid d8
        clear d8
        go_wp2_with fail
        go_ret
        exact ⟨rfl, D8.out⟩
      · go_enter Try.func35, Try.ntmps35
        go_wp2_with fail
        refine HM.out.mono ?_
        rintro e w1 ⟨rfl, hB⟩
        have HB1 := Lib.hid hB
        clear hB
        go_wp2_with fail
        refine (HGd.out _).mono ?_
        rintro e w1b ⟨rfl, rfl⟩
        go_wp2_with fail
        refine (HBe.out _ HB1.out).mono ?_
        rintro e w2 ⟨rfl, d2, _⟩
        have D2 := Lib.hid d2
        clear d2
        go_wp2_with fail
        refine (ends_any D2.out hdn2 hok.n' hok.t hok.s hok.k true).mono ?_
        rintro e w8 ⟨rfl, d8⟩
        have D8 := Lib.hid d8
        clear d8
        go_wp2_with fail
        go_ret
        exact ⟨rfl, D8.out⟩
      · go_enter Try.func35, Try.ntmps35
        go_wp2_with fail
        refine HM.out.mono ?_
        rintro e w1 ⟨rfl, hB⟩
        have HB1 := Lib.hid hB
        clear hB
        go_wp2_with fail
        refine (HGd.out _).mono ?_
        rintro e w1b ⟨rfl, rfl⟩
        go_wp2_with fail
        refine (HBe.out _ HB1.out).mono ?_
        rintro e w2 ⟨rfl, d2, _⟩
        have D2 := Lib.hid d2
        clear d2
        go_wp2_with fail
        obtain ⟨g, o, c, hrun, hat, hfl⟩ := D2.out.take hok.n' hi HIdx.out
        rw [HY.out] at hfl
        have HRun := Lib.hid hrun
        have HAt := Lib.hid hat
        have HFl := Lib.hid hfl
        have hyS : (mkB y.2.1).size = y.2.1.length := mkB_size _
        have hltI : (i : Int) < (A.length : Nat) := by omega
        have hnn : (0 : Int) ≤ (i : Nat) := by omega
        clear hrun hat hfl
        go_wp2_with fail
        have hd4 : Below w2.heap.size w2 w2.drew := (Below.refl _ _).drew
        have hRL : ∃ Rs : List (Value → World → Prop), Rs = [K3.PureV (.pointer (some ⟨b, 0, none⟩)),
            K3.PureV (.pointer (some ⟨b, 0, none⟩)),
            K3.PureV (.pointer (some ⟨b, 0, none⟩)),
            K3.PureV (.slice (some ⟨g, o, none⟩) A.length c),
            K3.PureV (.pointer (some ⟨b, 0, none⟩)),
            K3.PureV (.string x),
            K3.PureV (.int .i64 (i : Nat)),
            K3.PureV (.pointer (some ⟨g, o + i * 3, none⟩)),
            K3.PureV (.agg (fV y).toArray),
            MadeF w2.heap.size #[.string ⟨#[]⟩, .string ⟨#[]⟩, .int .i64 0],
            MadeF w2.heap.size (fV y).toArray] := ⟨_, rfl⟩
        obtain ⟨Rs, hRs⟩ := hRL
        refine K3.wp_region_rel2 w2.heap.size (Nat.le_refl _) (K3.RL Rs) [2, 2, 2, 2, 2, 2, 2, 2, 2, 1, 1] [1, 1, 1, 1, 1, 1, 1, 1, 1, 1, 2] [[], [], [], [], [], [], [], [], [], [], [9]] (by kernel_rfl) (by kernel_rfl) (K3.RL.st1 (by rw [hRs]; exact K3.st1_cons (K3.PureV.st1 _) (K3.st1_cons (K3.PureV.st1 _) (K3.st1_cons (K3.PureV.st1 _) (K3.st1_cons (K3.PureV.st1 _) (K3.st1_cons (K3.PureV.st1 _) (K3.st1_cons (K3.PureV.st1 _) (K3.st1_cons (K3.PureV.st1 _) (K3.st1_cons (K3.PureV.st1 _) (K3.st1_cons (K3.PureV.st1 _) (K3.st1_cons (MadeF.st1 _ _) (K3.st1_cons (MadeF.st1 _ _) (K3.st1_nil))))))))))))) (K3.RL.st2 (by rw [hRs]; exact K3.st2_cons (K3.PureV.st2 _ _ _) (K3.st2_cons (K3.PureV.st2 _ _ _) (K3.st2_cons (K3.PureV.st2 _ _ _) (K3.st2_cons (K3.PureV.st2 _ _ _) (K3.st2_cons (K3.PureV.st2 _ _ _) (K3.st2_cons (K3.PureV.st2 _ _ _) (K3.st2_cons (K3.PureV.st2 _ _ _) (K3.st2_cons (K3.PureV.st2 _ _ _) (K3.st2_cons (K3.PureV.st2 _ _ _) (K3.st2_skip (K3.st2_skip (K3.st2_nil))))))))))))) ?_ ?_ ?_
        · intro i o d hi hd
          have hmem := List.mem_of_getElem? hi
          simp only [List.mem_cons, List.not_mem_nil, or_false] at hmem
          rcases hmem with rfl | rfl | rfl | rfl | rfl | rfl | rfl | rfl | rfl | rfl | rfl <;> simp at hd <;> (subst hd; simp)
        · refine K3.rel_start (Φ := K3.Hop _ _ _ _ _ _ _) ?_
          refine K3.rel_cons (Φ := K3.Hop _ _ _ _ _ _ _) (k := 0) ?_ ?_
          · intro fa fw hfB hfN hfE hfk hft
            have k0 : fa.eval (.tmp 0) = .pointer (some ⟨b, 0, none⟩) := hft 0 (K3.mem_looks (by kernel_rfl)) (K3.noneed (by kernel_rfl))
            rw [hRs]
            refine K3.hop_plain rfl ?_
            refine K3.out_move rfl ?_
            exact ⟨k0, Below.refl _ _⟩
          refine K3.rel_cons (Φ := K3.Hop _ _ _ _ _ _ _) (k := 1) ?_ ?_
          · intro fa fw hfB hfN hfE hfk hft
            have k26 : fa.eval (.tmp 26) = (.pointer (some ⟨b, 0, none⟩)) := by have := hfk 0 (K3.mem_needs (by kernel_rfl)) _ rfl; rw [hRs] at this; exact this
            rw [hRs]
            refine K3.hop_plain rfl ?_
            have kc : ∀ v, fa.eval (.const v) = v := fun _ => rfl
            generalize fa.eval = ρ at *
            exact K3.out_run (v := .pointer (some ⟨b, 0, none⟩)) (w' := fw) (by simp [execOp, kc, k26, go_sem]) ⟨rfl, Below.refl _ _⟩
          refine K3.rel_cons (Φ := K3.Hop _ _ _ _ _ _ _) (k := 2) ?_ ?_
          · intro fa fw hfB hfN hfE hfk hft
            have k27 : fa.eval (.tmp 27) = (.pointer (some ⟨b, 0, none⟩)) := by have := hfk 1 (K3.mem_needs (by kernel_rfl)) _ rfl; rw [hRs] at this; exact this
            rw [hRs]
            refine K3.hop_plain rfl ?_
            have kc : ∀ v, fa.eval (.const v) = v := fun _ => rfl
            generalize fa.eval = ρ at *
            exact K3.out_run (v := .pointer (some ⟨b, 0, none⟩)) (w' := fw) (by simp [execOp, kc, k27, go_sem]) ⟨rfl, Below.refl _ _⟩
          refine K3.rel_cons (Φ := K3.Hop _ _ _ _ _ _ _) (k := 3) ?_ ?_
          · intro fa fw hfB hfN hfE hfk hft
            have k28 : fa.eval (.tmp 28) = (.pointer (some ⟨b, 0, none⟩)) := by have := hfk 2 (K3.mem_needs (by kernel_rfl)) _ rfl; rw [hRs] at this; exact this
            rw [hRs]
            refine K3.hop_plain rfl ?_
            exact out_load3 rfl k28 (HRun.out fw (hd4.trans hfB)) ⟨rfl, Below.refl _ _⟩
          refine K3.rel_cons (Φ := K3.Hop _ _ _ _ _ _ _) (k := 4) ?_ ?_
          · intro fa fw hfB hfN hfE hfk hft
            have k0 : fa.eval (.tmp 0) = .pointer (some ⟨b, 0, none⟩) := hft 0 (K3.mem_looks (by kernel_rfl)) (K3.noneed (by kernel_rfl))
            rw [hRs]
            refine K3.hop_plain rfl ?_
            refine K3.out_move rfl ?_
            exact ⟨k0, Below.refl _ _⟩
          refine K3.rel_cons (Φ := K3.Hop _ _ _ _ _ _ _) (k := 5) ?_ ?_
          · intro fa fw hfB hfN hfE hfk hft
            have k1 : fa.eval (.tmp 1) = .string x := hft 1 (K3.mem_looks (by kernel_rfl)) (K3.noneed (by kernel_rfl))
            rw [hRs]
            refine K3.hop_plain rfl ?_
            refine K3.out_move rfl ?_
            exact ⟨k1, Below.refl _ _⟩
          refine K3.rel_cons (Φ := K3.Hop _ _ _ _ _ _ _) (k := 6) ?_ ?_
          · intro fa fw hfB hfN hfE hfk hft
            have k30 : fa.eval (.tmp 30) = (.pointer (some ⟨b, 0, none⟩)) := by have := hfk 4 (K3.mem_needs (by kernel_rfl)) _ rfl; rw [hRs] at this; exact this
            have k31 : fa.eval (.tmp 31) = (.string x) := by have := hfk 5 (K3.mem_needs (by kernel_rfl)) _ rfl; rw [hRs] at this; exact this
            rw [hRs]
            refine K3.hop_plain rfl ?_
            have kf : fa.eval (.func 43) = .func (.func 43) #[] #[] := rfl
            refine K3.out_call (f := 43) (args := #[fa.eval (.tmp 30), fa.eval (.tmp 31)]) (by generalize fa.eval = ρ at *; simp [execOp, kf, go_sem]) ?_
            rw [k30, k31]
            exact (HAt.out fw (hd4.trans hfB)).mono fun e w' ⟨he, hw⟩ => ⟨_, he, rfl, hw⟩
          refine K3.rel_cons (Φ := K3.Hop _ _ _ _ _ _ _) (k := 7) ?_ ?_
          · intro fa fw hfB hfN hfE hfk hft
            have k29 : fa.eval (.tmp 29) = (.slice (some ⟨g, o, none⟩) A.length c) := by have := hfk 3 (K3.mem_needs (by kernel_rfl)) _ rfl; rw [hRs] at this; exact this
            have k32 : fa.eval (.tmp 32) = (.int .i64 (i : Nat)) := by have := hfk 6 (K3.mem_needs (by kernel_rfl)) _ rfl; rw [hRs] at this; exact this
            rw [hRs]
            refine K3.hop_plain rfl ?_
            have kc : ∀ v, fa.eval (.const v) = v := fun _ => rfl
            generalize fa.eval = ρ at *
            exact K3.out_run (v := .pointer (some ⟨g, o + i * 3, none⟩)) (w' := fw) (by simp [execOp, kc, k29, k32, go_sem, hltI, hnn]) ⟨rfl, Below.refl _ _⟩
          refine K3.rel_cons (Φ := K3.Hop _ _ _ _ _ _ _) (k := 8) ?_ ?_
          · intro fa fw hfB hfN hfE hfk hft
            have k33 : fa.eval (.tmp 33) = (.pointer (some ⟨g, o + i * 3, none⟩)) := by have := hfk 7 (K3.mem_needs (by kernel_rfl)) _ rfl; rw [hRs] at this; exact this
            rw [hRs]
            refine K3.hop_plain rfl ?_
            exact out_load3 rfl k33 (HFl.out fw (hd4.trans hfB)) ⟨rfl, Below.refl _ _⟩
          refine K3.rel_cons (Φ := K3.Hop _ _ _ _ _ _ _) (k := 9) ?_ ?_
          · intro fa fw hfB hfN hfE hfk hft
            rw [hRs]
            refine K3.hop_plain rfl ?_
            generalize fa.eval = ρ at *
            exact K3.out_run (v := .pointer (some ⟨fw.heap.size, 0, none⟩)) (w' := fw.alloc (.cells #[.string ⟨#[]⟩, .string ⟨#[]⟩, .int .i64 0] 68)) (by simp [execOp, go_sem]) ⟨⟨fw.heap.size, hfN, rfl, heap_alloc_new _ _⟩, (Below.refl _ _).alloc (Nat.le_refl _) _⟩
          refine K3.rel_cons (Φ := K3.Hop _ _ _ _ _ _ _) (k := 10) ?_ ?_
          · intro fa fw hfB hfN hfE hfk hft
            have k10 : (MadeF w2.heap.size #[.string ⟨#[]⟩, .string ⟨#[]⟩, .int .i64 0]) (fa.eval (.tmp 10)) fw := by have := hfk 9 (K3.mem_needs (by kernel_rfl)) _ rfl; rw [hRs] at this; exact this
            have k34 : fa.eval (.tmp 34) = (.agg (fV y).toArray) := by have := hfk 8 (K3.mem_needs (by kernel_rfl)) _ rfl; rw [hRs] at this; exact this
            rw [hRs]
            refine K3.hop_plain rfl ?_
            obtain ⟨B, hB0, hBv, hBh⟩ := k10.e
            exact out_storeF rfl (show fa.eval (.tmp 10) = _ from hBv) k34 hBh (fV_size y) rfl (fV_all y) ⟨(show MadeF w2.heap.size (fV y).toArray (fa.tmps.getD 10 undef) _ from ⟨B, hB0, hBv, setRow_heap _ _ _ _ _ _ hBh⟩), below_setRow (Below.refl _ _) hB0 _⟩
          exact K3.rel_nil
        · intro fa fw hfB hfy hff hfs hfd
          rw [hRs] at hfy
          have k10 : MadeF w2.heap.size (fV y).toArray (fa.tmps.getD 10 undef) fw := hfy 10 _ rfl (K3.unkilled (by decide))
          have HBf := Lib.hid (show Below w2.heap.size w2 fw from hd4.trans hfB)
          have e := K3.rel_frame [26, 27, 28, 29, 30, 31, 32, 33, 34, 10] (by kernel_rfl) hff hfs hfd
          simp only [List.foldl] at e
          clear hfy hff hfs hfd 
          generalize fa.tmps.getD 26 undef = x26 at e
          generalize fa.tmps.getD 27 undef = x27 at e
          generalize fa.tmps.getD 28 undef = x28 at e
          generalize fa.tmps.getD 29 undef = x29 at e
          generalize fa.tmps.getD 30 undef = x30 at e
          generalize fa.tmps.getD 31 undef = x31 at e
          generalize fa.tmps.getD 32 undef = x32 at e
          generalize fa.tmps.getD 33 undef = x33 at e
          generalize fa.tmps.getD 34 undef = x34 at e
          generalize fa.tmps.getD 10 undef = x10 at e k10
          simp [List.setIfInBounds_toArray, List.set_cons_succ, List.set_cons_zero] at e
          subst e
          obtain ⟨B, hB0, rfl, hBh⟩ := k10.e
          clear k10 hfB
          have D2a := Lib.hid (D2.out.again HBf.out)
          have hBl := lt_of_block hBh
          have HBh := Lib.hid hBh
          clear hBh
          go_wp2_with fail
          refine (dropR_any D2a.out hok.n' x).mono ?_
          rintro e w5 ⟨rfl, d5⟩
          have hBh5 := (Rd.boxAt hS D2.out d5 hB0 hBl).trans HBh.out
          have f0 := block_free hBh5 0
          have c0b : w5.cell? ⟨B, 0, none⟩ = some (.string y.1) := block_cell hBh5 0
          have hB2 := block_set (i := 0) (u := .string z) hBh5
          have Hr2 : Hid ((w5.setCell ⟨B, 0, none⟩ (.string z)).rangeAt B 0 (fV (z, y.2.1, y.2.2))) := Lib.hid (box_range hB2)
          have D5 := Lib.hid (Rd.backSet hS D2.out HBf.out d5 hB0 hBl 0 (.string z))
          clear d5 hBh5 hB2 hBl hB0
          go_wp2_with (first | (refine wpList_load_mid rfl 68 (.tmp 10) rfl B 0 rfl [.string z, .string (mkB y.2.1), .int .i64 (y.2.2 : Nat)] _ Hr2.out Try.underlying68 rfl fV_info ?_))
          refine (putR_any D5.out hnd (z, y.2.1, y.2.2)).mono ?_
          rintro e w6 ⟨rfl, d6⟩
          have D6 := Lib.hid (Rd.castA HA1.out d6)
          clear d6
          go_wp2_with fail
          refine (ends_any D6.out hdn2 HN1.out HT1.out HS1.out hok.k false).mono ?_
          rintro e w8 ⟨rfl, d8⟩
          have D8 := Lib.hid d8
          clear d8
          go_wp2_with fail
          go_ret
          exact ⟨rfl, D8.out⟩
      · go_enter Try.func35, Try.ntmps35
        go_wp2_with fail
        refine HM.out.mono ?_
        rintro e w1 ⟨rfl, hB⟩
        have HB1 := Lib.hid hB
        clear hB
        go_wp2_with fail
        refine (HGd.out _).mono ?_
        rintro e w1b ⟨rfl, rfl⟩
        go_wp2_with fail
        refine (HBe.out _ HB1.out).mono ?_
        rintro e w2 ⟨rfl, d2, _⟩
        have D2 := Lib.hid d2
        clear d2
        go_wp2_with fail
        obtain ⟨g, o, c, hrun, hat, hfl⟩ := D2.out.take hok.n' hi HIdx.out
        rw [HY.out] at hfl
        have HRun := Lib.hid hrun
        have HAt := Lib.hid hat
        have HFl := Lib.hid hfl
        have hyS : (mkB y.2.1).size = y.2.1.length := mkB_size _
        have hltI : (i : Int) < (A.length : Nat) := by omega
        have hnn : (0 : Int) ≤ (i : Nat) := by omega
        clear hrun hat hfl
        go_wp2_with fail
        have hd4 : Below w2.heap.size w2 w2.drew := (Below.refl _ _).drew
        have hRL : ∃ Rs : List (Value → World → Prop), Rs = [K3.PureV (.pointer (some ⟨b, 0, none⟩)),
            K3.PureV (.pointer (some ⟨b, 0, none⟩)),
            K3.PureV (.pointer (some ⟨b, 0, none⟩)),
            K3.PureV (.slice (some ⟨g, o, none⟩) A.length c),
            K3.PureV (.pointer (some ⟨b, 0, none⟩)),
            K3.PureV (.string x),
            K3.PureV (.int .i64 (i : Nat)),
            K3.PureV (.pointer (some ⟨g, o + i * 3, none⟩)),
            K3.PureV (.agg (fV y).toArray),
            MadeF w2.heap.size #[.string ⟨#[]⟩, .string ⟨#[]⟩, .int .i64 0],
            MadeF w2.heap.size (fV y).toArray] := ⟨_, rfl⟩
        obtain ⟨Rs, hRs⟩ := hRL
        refine K3.wp_region_rel2 w2.heap.size (Nat.le_refl _) (K3.RL Rs) [2, 2, 2, 2, 2, 2, 2, 2, 2, 1, 1] [1, 1, 1, 1, 1, 1, 1, 1, 1, 1, 2] [[], [], [], [], [], [], [], [], [], [], [9]] (by kernel_rfl) (by kernel_rfl) (K3.RL.st1 (by rw [hRs]; exact K3.st1_cons (K3.PureV.st1 _) (K3.st1_cons (K3.PureV.st1 _) (K3.st1_cons (K3.PureV.st1 _) (K3.st1_cons (K3.PureV.st1 _) (K3.st1_cons (K3.PureV.st1 _) (K3.st1_cons (K3.PureV.st1 _) (K3.st1_cons (K3.PureV.st1 _) (K3.st1_cons (K3.PureV.st1 _) (K3.st1_cons (K3.PureV.st1 _) (K3.st1_cons (MadeF.st1 _ _) (K3.st1_cons (MadeF.st1 _ _) (K3.st1_nil))))))))))))) (K3.RL.st2 (by rw [hRs]; exact K3.st2_cons (K3.PureV.st2 _ _ _) (K3.st2_cons (K3.PureV.st2 _ _ _) (K3.st2_cons (K3.PureV.st2 _ _ _) (K3.st2_cons (K3.PureV.st2 _ _ _) (K3.st2_cons (K3.PureV.st2 _ _ _) (K3.st2_cons (K3.PureV.st2 _ _ _) (K3.st2_cons (K3.PureV.st2 _ _ _) (K3.st2_cons (K3.PureV.st2 _ _ _) (K3.st2_cons (K3.PureV.st2 _ _ _) (K3.st2_skip (K3.st2_skip (K3.st2_nil))))))))))))) ?_ ?_ ?_
        · intro i o d hi hd
          have hmem := List.mem_of_getElem? hi
          simp only [List.mem_cons, List.not_mem_nil, or_false] at hmem
          rcases hmem with rfl | rfl | rfl | rfl | rfl | rfl | rfl | rfl | rfl | rfl | rfl <;> simp at hd <;> (subst hd; simp)
        · refine K3.rel_start (Φ := K3.Hop _ _ _ _ _ _ _) ?_
          refine K3.rel_cons (Φ := K3.Hop _ _ _ _ _ _ _) (k := 0) ?_ ?_
          · intro fa fw hfB hfN hfE hfk hft
            have k0 : fa.eval (.tmp 0) = .pointer (some ⟨b, 0, none⟩) := hft 0 (K3.mem_looks (by kernel_rfl)) (K3.noneed (by kernel_rfl))
            rw [hRs]
            refine K3.hop_plain rfl ?_
            refine K3.out_move rfl ?_
            exact ⟨k0, Below.refl _ _⟩
          refine K3.rel_cons (Φ := K3.Hop _ _ _ _ _ _ _) (k := 1) ?_ ?_
          · intro fa fw hfB hfN hfE hfk hft
            have k26 : fa.eval (.tmp 26) = (.pointer (some ⟨b, 0, none⟩)) := by have := hfk 0 (K3.mem_needs (by kernel_rfl)) _ rfl; rw [hRs] at this; exact this
            rw [hRs]
            refine K3.hop_plain rfl ?_
            have kc : ∀ v, fa.eval (.const v) = v := fun _ => rfl
            generalize fa.eval = ρ at *
            exact K3.out_run (v := .pointer (some ⟨b, 0, none⟩)) (w' := fw) (by simp [execOp, kc, k26, go_sem]) ⟨rfl, Below.refl _ _⟩
          refine K3.rel_cons (Φ := K3.Hop _ _ _ _ _ _ _) (k := 2) ?_ ?_
          · intro fa fw hfB hfN hfE hfk hft
            have k27 : fa.eval (.tmp 27) = (.pointer (some ⟨b, 0, none⟩)) := by have := hfk 1 (K3.mem_needs (by kernel_rfl)) _ rfl; rw [hRs] at this; exact this
            rw [hRs]
            refine K3.hop_plain rfl ?_
            have kc : ∀ v, fa.eval (.const v) = v := fun _ => rfl
            generalize fa.eval = ρ at *
            exact K3.out_run (v := .pointer (some ⟨b, 0, none⟩)) (w' := fw) (by simp [execOp, kc, k27, go_sem]) ⟨rfl, Below.refl _ _⟩
          refine K3.rel_cons (Φ := K3.Hop _ _ _ _ _ _ _) (k := 3) ?_ ?_
          · intro fa fw hfB hfN hfE hfk hft
            have k28 : fa.eval (.tmp 28) = (.pointer (some ⟨b, 0, none⟩)) := by have := hfk 2 (K3.mem_needs (by kernel_rfl)) _ rfl; rw [hRs] at this; exact this
            rw [hRs]
            refine K3.hop_plain rfl ?_
            exact out_load3 rfl k28 (HRun.out fw (hd4.trans hfB)) ⟨rfl, Below.refl _ _⟩
          refine K3.rel_cons (Φ := K3.Hop _ _ _ _ _ _ _) (k := 4) ?_ ?_
          · intro fa fw hfB hfN hfE hfk hft
            have k0 : fa.eval (.tmp 0) = .pointer (some ⟨b, 0, none⟩) := hft 0 (K3.mem_looks (by kernel_rfl)) (K3.noneed (by kernel_rfl))
            rw [hRs]
            refine K3.hop_plain rfl ?_
            refine K3.out_move rfl ?_
            exact ⟨k0, Below.refl _ _⟩
          refine K3.rel_cons (Φ := K3.Hop _ _ _ _ _ _ _) (k := 5) ?_ ?_
          · intro fa fw hfB hfN hfE hfk hft
            have k1 : fa.eval (.tmp 1) = .string x := hft 1 (K3.mem_looks (by kernel_rfl)) (K3.noneed (by kernel_rfl))
            rw [hRs]
            refine K3.hop_plain rfl ?_
            refine K3.out_move rfl ?_
            exact ⟨k1, Below.refl _ _⟩
          refine K3.rel_cons (Φ := K3.Hop _ _ _ _ _ _ _) (k := 6) ?_ ?_
          · intro fa fw hfB hfN hfE hfk hft
            have k30 : fa.eval (.tmp 30) = (.pointer (some ⟨b, 0, none⟩)) := by have := hfk 4 (K3.mem_needs (by kernel_rfl)) _ rfl; rw [hRs] at this; exact this
            have k31 : fa.eval (.tmp 31) = (.string x) := by have := hfk 5 (K3.mem_needs (by kernel_rfl)) _ rfl; rw [hRs] at this; exact this
            rw [hRs]
            refine K3.hop_plain rfl ?_
            have kf : fa.eval (.func 43) = .func (.func 43) #[] #[] := rfl
            refine K3.out_call (f := 43) (args := #[fa.eval (.tmp 30), fa.eval (.tmp 31)]) (by generalize fa.eval = ρ at *; simp [execOp, kf, go_sem]) ?_
            rw [k30, k31]
            exact (HAt.out fw (hd4.trans hfB)).mono fun e w' ⟨he, hw⟩ => ⟨_, he, rfl, hw⟩
          refine K3.rel_cons (Φ := K3.Hop _ _ _ _ _ _ _) (k := 7) ?_ ?_
          · intro fa fw hfB hfN hfE hfk hft
            have k29 : fa.eval (.tmp 29) = (.slice (some ⟨g, o, none⟩) A.length c) := by have := hfk 3 (K3.mem_needs (by kernel_rfl)) _ rfl; rw [hRs] at this; exact this
            have k32 : fa.eval (.tmp 32) = (.int .i64 (i : Nat)) := by have := hfk 6 (K3.mem_needs (by kernel_rfl)) _ rfl; rw [hRs] at this; exact this
            rw [hRs]
            refine K3.hop_plain rfl ?_
            have kc : ∀ v, fa.eval (.const v) = v := fun _ => rfl
            generalize fa.eval = ρ at *
            exact K3.out_run (v := .pointer (some ⟨g, o + i * 3, none⟩)) (w' := fw) (by simp [execOp, kc, k29, k32, go_sem, hltI, hnn]) ⟨rfl, Below.refl _ _⟩
          refine K3.rel_cons (Φ := K3.Hop _ _ _ _ _ _ _) (k := 8) ?_ ?_
          · intro fa fw hfB hfN hfE hfk hft
            have k33 : fa.eval (.tmp 33) = (.pointer (some ⟨g, o + i * 3, none⟩)) := by have := hfk 7 (K3.mem_needs (by kernel_rfl)) _ rfl; rw [hRs] at this; exact this
            rw [hRs]
            refine K3.hop_plain rfl ?_
            exact out_load3 rfl k33 (HFl.out fw (hd4.trans hfB)) ⟨rfl, Below.refl _ _⟩
          refine K3.rel_cons (Φ := K3.Hop _ _ _ _ _ _ _) (k := 9) ?_ ?_
          · intro fa fw hfB hfN hfE hfk hft
            rw [hRs]
            refine K3.hop_plain rfl ?_
            generalize fa.eval = ρ at *
            exact K3.out_run (v := .pointer (some ⟨fw.heap.size, 0, none⟩)) (w' := fw.alloc (.cells #[.string ⟨#[]⟩, .string ⟨#[]⟩, .int .i64 0] 68)) (by simp [execOp, go_sem]) ⟨⟨fw.heap.size, hfN, rfl, heap_alloc_new _ _⟩, (Below.refl _ _).alloc (Nat.le_refl _) _⟩
          refine K3.rel_cons (Φ := K3.Hop _ _ _ _ _ _ _) (k := 10) ?_ ?_
          · intro fa fw hfB hfN hfE hfk hft
            have k10 : (MadeF w2.heap.size #[.string ⟨#[]⟩, .string ⟨#[]⟩, .int .i64 0]) (fa.eval (.tmp 10)) fw := by have := hfk 9 (K3.mem_needs (by kernel_rfl)) _ rfl; rw [hRs] at this; exact this
            have k34 : fa.eval (.tmp 34) = (.agg (fV y).toArray) := by have := hfk 8 (K3.mem_needs (by kernel_rfl)) _ rfl; rw [hRs] at this; exact this
            rw [hRs]
            refine K3.hop_plain rfl ?_
            obtain ⟨B, hB0, hBv, hBh⟩ := k10.e
            exact out_storeF rfl (show fa.eval (.tmp 10) = _ from hBv) k34 hBh (fV_size y) rfl (fV_all y) ⟨(show MadeF w2.heap.size (fV y).toArray (fa.tmps.getD 10 undef) _ from ⟨B, hB0, hBv, setRow_heap _ _ _ _ _ _ hBh⟩), below_setRow (Below.refl _ _) hB0 _⟩
          exact K3.rel_nil
        · intro fa fw hfB hfy hff hfs hfd
          rw [hRs] at hfy
          have k10 : MadeF w2.heap.size (fV y).toArray (fa.tmps.getD 10 undef) fw := hfy 10 _ rfl (K3.unkilled (by decide))
          have HBf := Lib.hid (show Below w2.heap.size w2 fw from hd4.trans hfB)
          have e := K3.rel_frame [26, 27, 28, 29, 30, 31, 32, 33, 34, 10] (by kernel_rfl) hff hfs hfd
          simp only [List.foldl] at e
          clear hfy hff hfs hfd 
          generalize fa.tmps.getD 26 undef = x26 at e
          generalize fa.tmps.getD 27 undef = x27 at e
          generalize fa.tmps.getD 28 undef = x28 at e
          generalize fa.tmps.getD 29 undef = x29 at e
          generalize fa.tmps.getD 30 undef = x30 at e
          generalize fa.tmps.getD 31 undef = x31 at e
          generalize fa.tmps.getD 32 undef = x32 at e
          generalize fa.tmps.getD 33 undef = x33 at e
          generalize fa.tmps.getD 34 undef = x34 at e
          generalize fa.tmps.getD 10 undef = x10 at e k10
          simp [List.setIfInBounds_toArray, List.set_cons_succ, List.set_cons_zero] at e
          subst e
          obtain ⟨B, hB0, rfl, hBh⟩ := k10.e
          clear k10 hfB
          have D2a := Lib.hid (D2.out.again HBf.out)
          have hBl := lt_of_block hBh
          have HBh := Lib.hid hBh
          clear hBh
          go_wp2_with fail
          refine (dropR_any D2a.out hok.n' x).mono ?_
          rintro e w5 ⟨rfl, d5⟩
          have hBh5 := (Rd.boxAt hS D2.out d5 hB0 hBl).trans HBh.out
          have f0 := block_free hBh5 0
          have c0b : w5.cell? ⟨B, 0, none⟩ = some (.string y.1) := block_cell hBh5 0
          have hB2 := block_set (i := 0) (u := .string z) hBh5
          have Hr2 : Hid ((w5.setCell ⟨B, 0, none⟩ (.string z)).rangeAt B 0 (fV (z, y.2.1, y.2.2))) := Lib.hid (box_range hB2)
          have D5 := Lib.hid (Rd.backSet hS D2.out HBf.out d5 hB0 hBl 0 (.string z))
          clear d5 hBh5 hB2 hBl hB0
          go_wp2_with (first | (refine wpList_load_mid rfl 68 (.tmp 10) rfl B 0 rfl [.string z, .string (mkB y.2.1), .int .i64 (y.2.2 : Nat)] _ Hr2.out Try.underlying68 rfl fV_info ?_))
          refine (putR_any D5.out hnd (z, y.2.1, y.2.2)).mono ?_
          rintro e w6 ⟨rfl, d6⟩
          have D6 := Lib.hid (Rd.castA HA1.out d6)
          clear d6
          go_wp2_with fail
          refine (ends_any D6.out hdn2 HN1.out HT1.out HS1.out hok.k true).mono ?_
          rintro e w8 ⟨rfl, d8⟩
          have D8 := Lib.hid d8
          clear d8
          go_wp2_with fail
          go_ret
          exact ⟨rfl, D8.out⟩
    · rw [if_neg hgz, stepR_pre (by decide)]
      rw [Bool.not_eq_true] at hgz
      rw [hgz] at HGd
      clear hf d hlk hyx hidx
      go_enter Try.func35, Try.ntmps35
      go_wp2_with fail
      refine HM.out.mono ?_
      rintro e w1 ⟨rfl, hB⟩
      have HB1 := Lib.hid hB
      clear hB
      go_wp2_with fail
      refine (HGd.out _).mono ?_
      rintro e w1b ⟨rfl, rfl⟩
      go_wp2_with fail
      go_ret
      exact ⟨rfl, D.out.below HB1.out⟩
  · have hp : True := by simp [hf]
    rw [if_pos hf, stepR_pre hf]
    generalize findA h A x = r at *
    have hrb : (r != 0) = true := by simpa using hf
    clear hf d
    go_enter Try.func35, Try.ntmps35
    go_wp2_with fail
    refine HM.out.mono ?_
    rintro e w1 ⟨rfl, hB⟩
    have D1 := Lib.hid (D.out.below hB)
    clear hB
    go_wp2_with fail
    go_ret
    exact ⟨rfl, D1.out⟩
theorem box_lit (w : World) (a c d : Value) : BoxL w w.heap.size [a, c, d] (w.alloc (.cells #[a, c, d] 68)) :=
  ⟨heap_alloc_new _ _, (Below.refl _ _).alloc (Nat.le_refl _) _, Nat.le_refl _⟩
set_option maxRecDepth 100000 in
set_option maxHeartbeats 4000000 in
theorem appendR_any {S : Nat → Prop} {w0 : World} {b : Nat} {h : Hd} {A : List Ab} {w : World} (d : Rd S w0 b h A w) (hok : ROk h A) (x : ByteArray) (c : List UInt8) (hc : c.length ≤ 16777216) :
    Calls Try.prog 32 #[.pointer (some ⟨b, 0, none⟩), .string x, .string (mkB c)] w fun e w' => e = .returned (.int .i64 (stepR h A (apdR A x c) (if readyE h x ≠ 0 then readyE h x else if h.room - (totA A : Nat) < (c.length : Nat) then 6 else 0) 0).1) ∧ Rd S w0 b (stepR h A (apdR A x c) (if readyE h x ≠ 0 then readyE h x else if h.room - (totA A : Nat) < (c.length : Nat) then 6 else 0) 0).2.1 (stepR h A (apdR A x c) (if readyE h x ≠ 0 then readyE h x else if h.room - (totA A : Nat) < (c.length : Nat) then 6 else 0) 0).2.2 w' := by
  have HM := Lib.hid (may_free d x)
  have D := Lib.hid d
  have HFr := Lib.hid (freeR_any d hok.hd.room hok.t hok.n')
  have hcS : (mkB c).size = c.length := mkB_size _
  by_cases hr : readyE h x = 0
  · rw [if_neg (by simp [hr])]
    rw [hr] at HM
    obtain ⟨hdn, hgx⟩ := readyE_ok hr
    by_cases hfu : h.room - (totA A : Nat) < (c.length : Nat)
    · rw [if_pos hfu, stepR_pre (by decide)]
      generalize h.room - (totA A : Nat) = fr at *
      have g1 : decide (fr < (c.length : Nat)) = true := decide_eq_true hfu
      clear hr d
      go_enter Try.func32, Try.ntmps32
      go_wp2_with fail
      refine HM.out.mono ?_
      rintro e w1 ⟨rfl, rfl⟩
      go_wp2_with fail
      refine HFr.out.mono ?_
      rintro e w2 ⟨rfl, hB⟩
      have HB1 := Lib.hid hB
      clear hB
      go_wp2_with fail
      go_ret
      exact ⟨rfl, D.out.below HB1.out⟩
    · rw [if_neg hfu]
      have hT0 : totA A + c.length ≤ 1048576 := by have := hok.hd.room; omega
      have HAc := Lib.hid (fun w1 (hB : Below w.heap.size w w1) => actR_any (d.below hB) hok.hd.left hok.hd.acts)
      generalize h.room - (totA A : Nat) = fr at *
      have g1 : decide (fr < (c.length : Nat)) = false := decide_eq_false hfu
      rcases @idx_look A x with ⟨hidx, hlk⟩ | ⟨i, hi, hidx, hlk, hyx⟩
      · have HA1 : Hid (putR A (x, [] ++ c, 0) = apdR A x c) := Lib.hid (by unfold apdR; rw [hlk]; rfl)
        have HIdx := Lib.hid hidx
        have HN1 : Hid ((apdR A x c).length ≤ 1048576) := Lib.hid (by rw [← HA1.out]; have := putR_len (x, [] ++ c, 0) A; have := hok.n; omega)
        have HT1 : Hid (totA (apdR A x c) ≤ 1048576) := Lib.hid (by rw [← HA1.out, tot_putR]; have := @tot_drp A x; simp only [List.nil_append]; omega)
        have HS1 : Hid (∀ y ∈ apdR A x c, y.2.2 ≤ y.2.1.length) := Lib.hid (by rw [← HA1.out]; exact safe_putR hok.s (Nat.zero_le _))
        by_cases hl : h.left = 1
        · rw [stepR_off rfl hl, if_pos (show doesB 0 h.keep = true from rfl)]
          rw [decide_eq_true hl] at HAc
          clear hl hr d hidx hlk
          go_enter Try.func32, Try.ntmps32
          go_wp2_with fail
          refine HM.out.mono ?_
          rintro e w1 ⟨rfl, rfl⟩
          go_wp2_with fail
          refine HFr.out.mono ?_
          rintro e w2 ⟨rfl, hB⟩
          have HB1 := Lib.hid hB
          clear hB
          go_wp2_with fail
          refine (HAc.out _ HB1.out).mono ?_
          rintro e w3 ⟨rfl, d3, hz3⟩
          clear hz3
          have D3 := Lib.hid d3
          have hbx := box_lit w3 (.string x) (.string ⟨#[]⟩) (.int .i64 0)
          clear d3
          go_wp2_with fail
          generalize w3.alloc (.cells #[.string x, .string ⟨#[]⟩, .int .i64 0] 68) = wq at *
          have HBx := Lib.hid hbx
          have D4 := Lib.hid (D3.out.below hbx.b)
          clear hbx
          obtain ⟨v4, hl4, hb4, _⟩ := D4.out.filesC
          have hat4 := at_any hb4 hl4 hok.n' x
          rw [HIdx.out] at hat4
          have HAt4 := Lib.hid hat4
          clear hl4 hb4 hat4
          refine HAt4.out.mono ?_
          rintro e wy ⟨rfl, hB⟩
          have HB5 := Lib.hid hB
          clear hB
          have hBy := (HB5.out.block w3.heap.size (lt_of_block HBx.out.h)).trans HBx.out.h
          have HBy := Lib.hid (HBx.out.b.trans (HB5.out.mono HBx.out.b.size))
          have h0B : w3.heap.size ≤ w3.heap.size := Nat.le_refl _
          have cy1 : wy.cell? ⟨w3.heap.size, 1, none⟩ = some (.string (mkB ([] : List UInt8))) := block_cell hBy 1
          have fy1 := block_free hBy 1
          have hB2 := block_set (i := 1) (u := .string (mkB (([] : List UInt8) ++ c))) hBy
          have Hr2 : Hid ((wy.setCell ⟨w3.heap.size, 1, none⟩ (.string (mkB (([] : List UInt8) ++ c)))).rangeAt w3.heap.size 0 (fV (x, ([] : List UInt8) ++ c, 0))) := Lib.hid (box_range hB2)
          have HB2 : Hid (Below w3.heap.size w3 (wy.setCell ⟨w3.heap.size, 1, none⟩ (.string (mkB (([] : List UInt8) ++ c))))) := Lib.hid (HBy.out.setCell (by show w3.heap.size ≤ w3.heap.size; exact h0B) _)
          have hyS : (mkB ([] : List UInt8)).size = ([] : List UInt8).length := mkB_size _
          have hyc := mkB_app ([] : List UInt8) c
          clear hB2 hBy h0B
          go_wp2_with (first | (refine wpList_load_mid rfl 68 (.tmp 9) rfl w3.heap.size 0 rfl [.string x, .string (mkB (([] : List UInt8) ++ c)), .int .i64 0] _ Hr2.out Try.underlying68 rfl fV_info ?_))
          refine (putR_any (D3.out.below HB2.out) hok.n' (x, ([] : List UInt8) ++ c, 0)).mono ?_
          rintro e w6 ⟨rfl, d6⟩
          have D6 := Lib.hid (Rd.castA HA1.out d6)
          clear d6
          go_wp2_with fail
          have C5 := Lib.hid D6.out.keepC.1
          have C6 := Lib.hid D6.out.keepC.2
          refine wp_region_class_tail (Below w6.heap.size w6) 9 (by kernel_rfl) (by kernel_rfl) (Below.refl _ _).drew ?_
          simp only [List.take_succ_cons, List.take_zero, List.drop_succ_cons, List.drop_zero]
          repeat (go_big_quiet_step (first | (intro _; rfl)))
          refine wpQuiet_load_at rfl 3 (.tmp 50) rfl ⟨b, 5, none⟩ rfl _ C5.out ?_
          simp only [Act.put, List.setIfInBounds_toArray, List.set_cons_succ, List.set_cons_zero]
          repeat (go_big_quiet_step (first | (intro _; rfl)))
          refine wpQuiet_load_at rfl 4 (.tmp 54) rfl ⟨b, 6, none⟩ rfl _ C6.out ?_
          simp only [Act.put, List.setIfInBounds_toArray, List.set_cons_succ, List.set_cons_zero]
          repeat (go_big_quiet_step (first | (intro _; rfl)))
          refine wpQuiet_nil ?_
          intro wz hz
          have Dz := Lib.hid (D6.out.below hz)
          clear hz
          go_wp2_with fail
          refine (loseR_any Dz.out hdn HN1.out HT1.out HS1.out h.keep h.torn hok.k).mono ?_
          rintro e w9 ⟨rfl, d9⟩
          have D9 := Lib.hid d9
          clear d9
          go_wp2_with fail
          go_ret
          exact ⟨rfl, D9.out⟩
        · rw [stepR_ok rfl hl]
          rw [decide_eq_false hl] at HAc
          clear hl hr d hidx hlk
          go_enter Try.func32, Try.ntmps32
          go_wp2_with fail
          refine HM.out.mono ?_
          rintro e w1 ⟨rfl, rfl⟩
          go_wp2_with fail
          refine HFr.out.mono ?_
          rintro e w2 ⟨rfl, hB⟩
          have HB1 := Lib.hid hB
          clear hB
          go_wp2_with fail
          refine (HAc.out _ HB1.out).mono ?_
          rintro e w3 ⟨rfl, d3, hz3⟩
          clear hz3
          have D3 := Lib.hid d3
          have hbx := box_lit w3 (.string x) (.string ⟨#[]⟩) (.int .i64 0)
          clear d3
          go_wp2_with fail
          generalize w3.alloc (.cells #[.string x, .string ⟨#[]⟩, .int .i64 0] 68) = wq at *
          have HBx := Lib.hid hbx
          have D4 := Lib.hid (D3.out.below hbx.b)
          clear hbx
          obtain ⟨v4, hl4, hb4, _⟩ := D4.out.filesC
          have hat4 := at_any hb4 hl4 hok.n' x
          rw [HIdx.out] at hat4
          have HAt4 := Lib.hid hat4
          clear hl4 hb4 hat4
          refine HAt4.out.mono ?_
          rintro e wy ⟨rfl, hB⟩
          have HB5 := Lib.hid hB
          clear hB
          have hBy := (HB5.out.block w3.heap.size (lt_of_block HBx.out.h)).trans HBx.out.h
          have HBy := Lib.hid (HBx.out.b.trans (HB5.out.mono HBx.out.b.size))
          have h0B : w3.heap.size ≤ w3.heap.size := Nat.le_refl _
          have cy1 : wy.cell? ⟨w3.heap.size, 1, none⟩ = some (.string (mkB ([] : List UInt8))) := block_cell hBy 1
          have fy1 := block_free hBy 1
          have hB2 := block_set (i := 1) (u := .string (mkB (([] : List UInt8) ++ c))) hBy
          have Hr2 : Hid ((wy.setCell ⟨w3.heap.size, 1, none⟩ (.string (mkB (([] : List UInt8) ++ c)))).rangeAt w3.heap.size 0 (fV (x, ([] : List UInt8) ++ c, 0))) := Lib.hid (box_range hB2)
          have HB2 : Hid (Below w3.heap.size w3 (wy.setCell ⟨w3.heap.size, 1, none⟩ (.string (mkB (([] : List UInt8) ++ c))))) := Lib.hid (HBy.out.setCell (by show w3.heap.size ≤ w3.heap.size; exact h0B) _)
          have hyS : (mkB ([] : List UInt8)).size = ([] : List UInt8).length := mkB_size _
          have hyc := mkB_app ([] : List UInt8) c
          clear hB2 hBy h0B
          go_wp2_with (first | (refine wpList_load_mid rfl 68 (.tmp 9) rfl w3.heap.size 0 rfl [.string x, .string (mkB (([] : List UInt8) ++ c)), .int .i64 0] _ Hr2.out Try.underlying68 rfl fV_info ?_))
          refine (putR_any (D3.out.below HB2.out) hok.n' (x, ([] : List UInt8) ++ c, 0)).mono ?_
          rintro e w6 ⟨rfl, d6⟩
          have D6 := Lib.hid (Rd.castA HA1.out d6)
          clear d6
          go_wp2_with fail
          go_ret
          exact ⟨rfl, D6.out⟩
      · obtain ⟨y, hy⟩ : ∃ y, A[i] = y := ⟨_, rfl⟩
        have HY := Lib.hid hy
        have HIdx := Lib.hid hidx
        rw [hy] at hlk hyx
        have HA1 : Hid (putR A (y.1, y.2.1 ++ c, y.2.2) = apdR A x c) := Lib.hid (by unfold apdR; rw [hlk, ← hyx])
        have hysf : y.2.2 ≤ y.2.1.length := hok.s y (lookA_some hlk).1
        have htl := tot_drp_look hlk
        rw [← hyx] at htl
        have HN1 : Hid ((apdR A x c).length ≤ 1048576) := Lib.hid (by rw [← HA1.out]; have := putR_len (y.1, y.2.1 ++ c, y.2.2) A; have := hok.n; omega)
        have HT1 : Hid (totA (apdR A x c) ≤ 1048576) := Lib.hid (by rw [← HA1.out, tot_putR]; simp only [List.length_append]; omega)
        have HS1 : Hid (∀ y ∈ apdR A x c, y.2.2 ≤ y.2.1.length) := Lib.hid (by rw [← HA1.out]; exact safe_putR hok.s (by simp only [List.length_append]; omega))
        have hyl : y.2.1.length ≤ 1048576 := by have := hok.t; omega
        have hyS : (mkB y.2.1).size = y.2.1.length := mkB_size _
        have hyc := mkB_app y.2.1 c
        by_cases hl : h.left = 1
        · rw [stepR_off rfl hl, if_pos (show doesB 0 h.keep = true from rfl)]
          rw [decide_eq_true hl] at HAc
          clear hl hr d hidx hlk hyx hy htl
          go_enter Try.func32, Try.ntmps32
          go_wp2_with fail
          refine HM.out.mono ?_
          rintro e w1 ⟨rfl, rfl⟩
          go_wp2_with fail
          refine HFr.out.mono ?_
          rintro e w2 ⟨rfl, hB⟩
          have HB1 := Lib.hid hB
          clear hB
          go_wp2_with fail
          refine (HAc.out _ HB1.out).mono ?_
          rintro e w3 ⟨rfl, d3, hz3⟩
          clear hz3
          have D3 := Lib.hid d3
          have hbx := box_lit w3 (.string x) (.string ⟨#[]⟩) (.int .i64 0)
          clear d3
          go_wp2_with fail
          generalize w3.alloc (.cells #[.string x, .string ⟨#[]⟩, .int .i64 0] 68) = wq at *
          have HBx := Lib.hid hbx
          have D4 := Lib.hid (D3.out.below hbx.b)
          clear hbx
          obtain ⟨v4, hl4, hb4, _⟩ := D4.out.filesC
          have hat4 := at_any hb4 hl4 hok.n' x
          rw [HIdx.out] at hat4
          have HAt4 := Lib.hid hat4
          clear hl4 hb4 hat4
          refine HAt4.out.mono ?_
          rintro e w5 ⟨rfl, hB⟩
          have HB5 := Lib.hid hB
          clear hB
          have hb5 := (HB5.out.block w3.heap.size (lt_of_block HBx.out.h)).trans HBx.out.h
          have Hb5 := Lib.hid hb5
          have HBq := Lib.hid (HBx.out.b.trans (HB5.out.mono HBx.out.b.size))
          obtain ⟨g, o, cc, hrun, hat, hfl⟩ := (D3.out.below HBq.out).take hok.n' hi HIdx.out
          rw [HY.out] at hfl
          have HRun := Lib.hid hrun
          have HAt : Hid (∀ w9, Below w5.heap.size w5 w9 → Calls Try.prog 43 #[.pointer (some ⟨b, 0, none⟩), .string x] w9 fun e w' => e = .returned (.int .i64 (i : Nat)) ∧ Below w5.heap.size w5 w') := Lib.hid (fun w9 h9 => (hat w9 h9).mono (fun e w' ⟨he, hw⟩ => ⟨he, h9.trans (hw.mono h9.size)⟩))
          have HFl := Lib.hid hfl
          have hltI : (i : Int) < (A.length : Nat) := by omega
          have hnn : (0 : Int) ≤ (i : Nat) := by omega
          clear hrun hat hfl hb5
          go_wp2_with fail
          refine wp_region_class_tail (Below w5.heap.size w5) 9 (by kernel_rfl) (by kernel_rfl) (Below.refl _ _).drew ?_
          simp only [List.take_succ_cons, List.take_zero, List.drop_succ_cons, List.drop_zero]
          repeat (go_big_quiet_step (first | (intro _; rfl)))
          refine wpQuiet_load_at rfl 34 (.tmp 31) rfl ⟨b, 0, none⟩ rfl _ HRun.out ?_
          simp only [Act.put, List.setIfInBounds_toArray, List.set_cons_succ, List.set_cons_zero]
          repeat (go_big_quiet_step (first | (intro _; rfl) | (intro hq; exact HAt.out _ hq)))
          refine wpQuiet_load_at rfl 68 (.tmp 36) rfl ⟨g, o + i * 3, none⟩ rfl (.agg (fV y).toArray) HFl.out ?_
          simp only [Act.put, List.setIfInBounds_toArray, List.set_cons_succ, List.set_cons_zero]
          repeat (go_big_quiet_step (first | (intro _; rfl)))
          refine wpQuiet_nil ?_
          intro wz hz
          have hbz := (hz.block w3.heap.size (lt_of_block Hb5.out)).trans Hb5.out
          have HBz := Lib.hid (HBq.out.trans (hz.mono HBq.out.size))
          clear hz
          go_wp2_with (first | (refine wpList_store_rowTo rfl 68 (.tmp 9) (.tmp 37) rfl rfl w3.heap.size (fV y).toArray rfl rfl 68 _ hbz (fV_size y) rfl (fV_all y) ?_; have hBy := setRow_heap _ _ _ (fV y).toArray _ _ hbz; have HBy := Lib.hid (below_setRow HBz.out (Nat.le_refl _) (fV y).toArray); have cy1 : (wz.setRow w3.heap.size (fV y).toArray).cell? ⟨w3.heap.size, 1, none⟩ = some (.string (mkB y.2.1)) := block_cell hBy 1; have fy1 := block_free hBy 1; have hB2 := block_set (i := 1) (u := .string (mkB (y.2.1 ++ c))) hBy; have Hr2 : Hid (((wz.setRow w3.heap.size (fV y).toArray).setCell ⟨w3.heap.size, 1, none⟩ (.string (mkB (y.2.1 ++ c)))).rangeAt w3.heap.size 0 (fV (y.1, y.2.1 ++ c, y.2.2))) := Lib.hid (box_range hB2); have HB2 : Hid (Below w3.heap.size w3 ((wz.setRow w3.heap.size (fV y).toArray).setCell ⟨w3.heap.size, 1, none⟩ (.string (mkB (y.2.1 ++ c))))) := Lib.hid (HBy.out.setCell (by show w3.heap.size ≤ w3.heap.size; exact Nat.le_refl _) _); clear hB2 hBy hbz) | (refine wpList_load_mid rfl 68 (.tmp 9) rfl w3.heap.size 0 rfl [.string y.1, .string (mkB (y.2.1 ++ c)), .int .i64 (y.2.2 : Nat)] _ Hr2.out Try.underlying68 rfl fV_info ?_))
          refine (putR_any (D3.out.below HB2.out) hok.n' (y.1, y.2.1 ++ c, y.2.2)).mono ?_
          rintro e w6 ⟨rfl, d6⟩
          have D6 := Lib.hid (Rd.castA HA1.out d6)
          clear d6
          go_wp2_with fail
          have C5 := Lib.hid D6.out.keepC.1
          have C6 := Lib.hid D6.out.keepC.2
          refine wp_region_class_tail (Below w6.heap.size w6) 9 (by kernel_rfl) (by kernel_rfl) (Below.refl _ _).drew ?_
          simp only [List.take_succ_cons, List.take_zero, List.drop_succ_cons, List.drop_zero]
          repeat (go_big_quiet_step (first | (intro _; rfl)))
          refine wpQuiet_load_at rfl 3 (.tmp 50) rfl ⟨b, 5, none⟩ rfl _ C5.out ?_
          simp only [Act.put, List.setIfInBounds_toArray, List.set_cons_succ, List.set_cons_zero]
          repeat (go_big_quiet_step (first | (intro _; rfl)))
          refine wpQuiet_load_at rfl 4 (.tmp 54) rfl ⟨b, 6, none⟩ rfl _ C6.out ?_
          simp only [Act.put, List.setIfInBounds_toArray, List.set_cons_succ, List.set_cons_zero]
          repeat (go_big_quiet_step (first | (intro _; rfl)))
          refine wpQuiet_nil ?_
          intro wz hz
          have Dz := Lib.hid (D6.out.below hz)
          clear hz
          go_wp2_with fail
          refine (loseR_any Dz.out hdn HN1.out HT1.out HS1.out h.keep h.torn hok.k).mono ?_
          rintro e w9 ⟨rfl, d9⟩
          have D9 := Lib.hid d9
          clear d9
          go_wp2_with fail
          go_ret
          exact ⟨rfl, D9.out⟩
        · rw [stepR_ok rfl hl]
          rw [decide_eq_false hl] at HAc
          clear hl hr d hidx hlk hyx hy htl
          go_enter Try.func32, Try.ntmps32
          go_wp2_with fail
          refine HM.out.mono ?_
          rintro e w1 ⟨rfl, rfl⟩
          go_wp2_with fail
          refine HFr.out.mono ?_
          rintro e w2 ⟨rfl, hB⟩
          have HB1 := Lib.hid hB
          clear hB
          go_wp2_with fail
          refine (HAc.out _ HB1.out).mono ?_
          rintro e w3 ⟨rfl, d3, hz3⟩
          clear hz3
          have D3 := Lib.hid d3
          have hbx := box_lit w3 (.string x) (.string ⟨#[]⟩) (.int .i64 0)
          clear d3
          go_wp2_with fail
          generalize w3.alloc (.cells #[.string x, .string ⟨#[]⟩, .int .i64 0] 68) = wq at *
          have HBx := Lib.hid hbx
          have D4 := Lib.hid (D3.out.below hbx.b)
          clear hbx
          obtain ⟨v4, hl4, hb4, _⟩ := D4.out.filesC
          have hat4 := at_any hb4 hl4 hok.n' x
          rw [HIdx.out] at hat4
          have HAt4 := Lib.hid hat4
          clear hl4 hb4 hat4
          refine HAt4.out.mono ?_
          rintro e w5 ⟨rfl, hB⟩
          have HB5 := Lib.hid hB
          clear hB
          have hb5 := (HB5.out.block w3.heap.size (lt_of_block HBx.out.h)).trans HBx.out.h
          have Hb5 := Lib.hid hb5
          have HBq := Lib.hid (HBx.out.b.trans (HB5.out.mono HBx.out.b.size))
          obtain ⟨g, o, cc, hrun, hat, hfl⟩ := (D3.out.below HBq.out).take hok.n' hi HIdx.out
          rw [HY.out] at hfl
          have HRun := Lib.hid hrun
          have HAt : Hid (∀ w9, Below w5.heap.size w5 w9 → Calls Try.prog 43 #[.pointer (some ⟨b, 0, none⟩), .string x] w9 fun e w' => e = .returned (.int .i64 (i : Nat)) ∧ Below w5.heap.size w5 w') := Lib.hid (fun w9 h9 => (hat w9 h9).mono (fun e w' ⟨he, hw⟩ => ⟨he, h9.trans (hw.mono h9.size)⟩))
          have HFl := Lib.hid hfl
          have hltI : (i : Int) < (A.length : Nat) := by omega
          have hnn : (0 : Int) ≤ (i : Nat) := by omega
          clear hrun hat hfl hb5
          go_wp2_with fail
          refine wp_region_class_tail (Below w5.heap.size w5) 9 (by kernel_rfl) (by kernel_rfl) (Below.refl _ _).drew ?_
          simp only [List.take_succ_cons, List.take_zero, List.drop_succ_cons, List.drop_zero]
          repeat (go_big_quiet_step (first | (intro _; rfl)))
          refine wpQuiet_load_at rfl 34 (.tmp 31) rfl ⟨b, 0, none⟩ rfl _ HRun.out ?_
          simp only [Act.put, List.setIfInBounds_toArray, List.set_cons_succ, List.set_cons_zero]
          repeat (go_big_quiet_step (first | (intro _; rfl) | (intro hq; exact HAt.out _ hq)))
          refine wpQuiet_load_at rfl 68 (.tmp 36) rfl ⟨g, o + i * 3, none⟩ rfl (.agg (fV y).toArray) HFl.out ?_
          simp only [Act.put, List.setIfInBounds_toArray, List.set_cons_succ, List.set_cons_zero]
          repeat (go_big_quiet_step (first | (intro _; rfl)))
          refine wpQuiet_nil ?_
          intro wz hz
          have hbz := (hz.block w3.heap.size (lt_of_block Hb5.out)).trans Hb5.out
          have HBz := Lib.hid (HBq.out.trans (hz.mono HBq.out.size))
          clear hz
          go_wp2_with (first | (refine wpList_store_rowTo rfl 68 (.tmp 9) (.tmp 37) rfl rfl w3.heap.size (fV y).toArray rfl rfl 68 _ hbz (fV_size y) rfl (fV_all y) ?_; have hBy := setRow_heap _ _ _ (fV y).toArray _ _ hbz; have HBy := Lib.hid (below_setRow HBz.out (Nat.le_refl _) (fV y).toArray); have cy1 : (wz.setRow w3.heap.size (fV y).toArray).cell? ⟨w3.heap.size, 1, none⟩ = some (.string (mkB y.2.1)) := block_cell hBy 1; have fy1 := block_free hBy 1; have hB2 := block_set (i := 1) (u := .string (mkB (y.2.1 ++ c))) hBy; have Hr2 : Hid (((wz.setRow w3.heap.size (fV y).toArray).setCell ⟨w3.heap.size, 1, none⟩ (.string (mkB (y.2.1 ++ c)))).rangeAt w3.heap.size 0 (fV (y.1, y.2.1 ++ c, y.2.2))) := Lib.hid (box_range hB2); have HB2 : Hid (Below w3.heap.size w3 ((wz.setRow w3.heap.size (fV y).toArray).setCell ⟨w3.heap.size, 1, none⟩ (.string (mkB (y.2.1 ++ c))))) := Lib.hid (HBy.out.setCell (by show w3.heap.size ≤ w3.heap.size; exact Nat.le_refl _) _); clear hB2 hBy hbz) | (refine wpList_load_mid rfl 68 (.tmp 9) rfl w3.heap.size 0 rfl [.string y.1, .string (mkB (y.2.1 ++ c)), .int .i64 (y.2.2 : Nat)] _ Hr2.out Try.underlying68 rfl fV_info ?_))
          refine (putR_any (D3.out.below HB2.out) hok.n' (y.1, y.2.1 ++ c, y.2.2)).mono ?_
          rintro e w6 ⟨rfl, d6⟩
          have D6 := Lib.hid (Rd.castA HA1.out d6)
          clear d6
          go_wp2_with fail
          go_ret
          exact ⟨rfl, D6.out⟩
  · rw [if_pos hr, stepR_pre hr]
    generalize readyE h x = r at *
    have hrb : (r != 0) = true := by simpa using hr
    clear hr d
    go_enter Try.func32, Try.ntmps32
    go_wp2_with fail
    refine HM.out.mono ?_
    rintro e w1 ⟨rfl, rfl⟩
    go_wp2_with fail
    go_ret
    exact ⟨rfl, D.out⟩
end Go.Proofs.Ytfmcemedaehcoaa
