/- The document's device: Cut, Rename. -/
import Derived.Test.YtfmcemedaehcoaaXh
namespace Go.Proofs.Ytfmcemedaehcoaa
set_option linter.unusedVariables false
set_option linter.unusedSimpArgs false
open Go.ChangeShapes Go.WideShapes Go.ChangeAt Go.RowKit Go.ChangeMaps

theorem tot_drp_look {A : List Ab} {x : ByteArray} {y : Ab} (h : lookA A x = some y) : totA (drpA A x) + y.2.1.length ≤ totA A := by
  obtain ⟨hm, he⟩ := lookA_some h
  clear h
  unfold totA drpA
  induction A with
  | nil => cases hm
  | cons a r ih =>
    rw [List.filter_cons]
    rcases List.mem_cons.1 hm with rfl | hm
    · rw [if_neg (by simp [he])]
      have := @tot_drp r x
      unfold totA drpA at this
      simp only [List.map_cons, List.sum_cons]; omega
    · have := ih hm
      split <;> simp only [List.map_cons, List.sum_cons] <;> omega
theorem tot_ins (f : Ab) : ∀ L : List Ab, totA (insR f L) = totA L + f.2.1.length
  | [] => by simp [insR, totA]
  | z :: r => by
    have ih := tot_ins f r
    unfold insR
    split
    · simp only [totA, List.map_cons, List.sum_cons]; omega
    · simp only [totA, List.map_cons, List.sum_cons] at ih ⊢; omega
theorem tot_putR (A : List Ab) (f : Ab) : totA (putR A f) = totA (drpA A f.1) + f.2.1.length := tot_ins f _
theorem safe_putR {A : List Ab} {f : Ab} (h : ∀ y ∈ A, y.2.2 ≤ y.2.1.length) (hf : f.2.2 ≤ f.2.1.length) : ∀ y ∈ putR A f, y.2.2 ≤ y.2.1.length := fun y hy => by
  rcases insR_mem.1 hy with rfl | hy
  · exact hf
  · exact h y (drpA_mem.1 hy).1
theorem Rd.again {S : Nat → Prop} {w0 w2 fw : World} {b : Nat} {h : Hd} {A : List Ab} (d : Rd S w0 b h A w2) (hB : Below w2.heap.size w2 fw) : Rd (Gr S w0 w2) fw b h A fw := by
  obtain ⟨v, h1, h2, h3⟩ := d.r
  exact ⟨⟨v, (hB.block b (lt_of_block h1)).trans h1, h2.below hB, fun g hg => ⟨(h3 g hg).1, .inl (h3 g hg).2⟩⟩, .inl d.s, Kept.refl _ _⟩
theorem gr_back {S : Nat → Prop} {w0 w2 fw w5 : World} (h0 : w0.heap.size ≤ w2.heap.size) (h1 : w2.heap.size ≤ fw.heap.size) (h2 : fw.heap.size ≤ w5.heap.size) : ∀ g, Gr (Gr S w0 w2) fw w5 g → Gr S w0 w5 g := fun g hg => by
  rcases hg with (hg | hg) | hg
  · exact .inl hg
  · exact .inr ⟨hg.1, by omega⟩
  · exact .inr ⟨by omega, hg.2⟩
theorem Rd.back {S : Nat → Prop} {w0 w2 fw w5 : World} {b : Nat} {h h' : Hd} {A A' : List Ab} (d : Rd S w0 b h A w2) (hB : Below w2.heap.size w2 fw) (d5 : Rd (Gr S w0 w2) fw b h' A' w5) : Rd S w0 b h' A' w5 := by
  obtain ⟨v, h1, h2, h3⟩ := d5.r
  have hg := gr_back (S := S) d.k.size hB.size d5.k.size
  have hk2 : Kept (Gr S w0 w2) w2 w5 := by
    refine ⟨d5.k.os.trans hB.os, d5.k.tape.trans hB.tape, d5.k.output.trans hB.output, Nat.le_trans hB.size d5.k.size, fun k hk hs => ?_⟩
    exact (d5.k.block k (Nat.lt_of_lt_of_le hk hB.size) hs).trans (hB.block k hk)
  exact ⟨⟨v, h1, h2, fun g hgg => ⟨(h3 g hgg).1, hg g (h3 g hgg).2⟩⟩, hg b d5.s, d.k.trans hk2⟩
/-- A box that is newer than the device is written. -/
theorem Rd.backSet {S : Nat → Prop} {w0 w2 fw w5 : World} {b B : Nat} {h h' : Hd} {A A' : List Ab} (hS : ∀ k, S k → k < w0.heap.size) (d : Rd S w0 b h A w2) (hB : Below w2.heap.size w2 fw) (d5 : Rd (Gr S w0 w2) fw b h' A' w5) (h1 : w2.heap.size ≤ B) (h2 : B < fw.heap.size) (i : Nat) (u : Value) : Rd S w0 b h' A' (w5.setCell ⟨B, i, none⟩ u) := by
  have hng : ∀ g, Gr (Gr S w0 w2) fw w5 g → g ≠ B := fun g hg e => by
    subst e
    rcases hg with (hg | hg) | hg
    · have := hS _ hg; have := d.k.size; omega
    · omega
    · omega
  have e := Rd.back d hB d5
  obtain ⟨v, r1, r2, r3⟩ := d5.r
  have hz := setCell_size w5 ⟨B, i, none⟩ u
  refine ⟨⟨v, (set_other _ _ _ _ _ (hng b d5.s)).trans r1, r2.other (by rw [hz]; exact Nat.le_refl _) (fun g hg => set_other _ _ _ _ _ (hng g (r3 g hg).2)), fun g hg => ⟨(r3 g hg).1, Gr.grow (by rw [hz]; exact Nat.le_refl _) g (gr_back d.k.size hB.size d5.k.size g (r3 g hg).2)⟩⟩, Gr.grow (by rw [hz]; exact Nat.le_refl _) b e.s, ?_⟩
  refine ⟨e.k.os, e.k.tape, e.k.output, by rw [hz]; exact e.k.size, fun k hk hs => ?_⟩
  rw [set_other _ _ _ _ _ (fun e2 => by subst e2; have := d.k.size; omega)]
  exact e.k.block k hk hs
theorem Rd.boxAt {S : Nat → Prop} {w0 w2 fw w5 : World} {b B : Nat} {h h' : Hd} {A A' : List Ab} (hS : ∀ k, S k → k < w0.heap.size) (d : Rd S w0 b h A w2) (d5 : Rd (Gr S w0 w2) fw b h' A' w5) (h1 : w2.heap.size ≤ B) (h2 : B < fw.heap.size) : w5.heap[B]? = fw.heap[B]? :=
  d5.k.block B h2 (fun hg => by
    rcases hg with hg | hg
    · have := hS _ hg; have := d.k.size; omega
    · omega)
theorem stepR_ends {h : Hd} {A A1 : List Ab} {pre : Int} (hp : pre = 0) : stepR h A A1 pre 1 = ((if decide (h.left = 1) = true then 7 else 0), (if decide (h.left = 1) = true then offR (actH h) else actH h), (if decide (h.left = 1) = true then (if doneR h = true then A1 else A).map (loseA h.keep h.torn) else (if doneR h = true then A1 else A))) := by
  by_cases hl : h.left = 1
  · have hd : doneR h = doesB 1 h.keep := by rw [doneR_eq, if_neg (by simp [hl])]
    rw [stepR_off hp hl, hd, decide_eq_true hl]; rfl
  · have hd : doneR h = true := by rw [doneR_eq, if_pos hl]
    rw [stepR_ok hp hl, hd, decide_eq_false hl]; rfl
set_option maxRecDepth 100000 in
set_option maxHeartbeats 4000000 in
theorem cutR_any {S : Nat → Prop} {w0 : World} {b : Nat} {h : Hd} {A : List Ab} {w : World} (d : Rd S w0 b h A w) (hok : ROk h A) (x : ByteArray) (n : Int) (hn : -9223372036854775808 ≤ n ∧ n ≤ 9223372036854775807) :
    Calls Try.prog 34 #[.pointer (some ⟨b, 0, none⟩), .string x, .int .i64 n] w fun e w' => e = .returned (.int .i64 (stepR h A (cutR A x n.toNat) (if findA h A x ≠ 0 then findA h A x else if n < 0 then 1 else 0) 1).1) ∧ Rd S w0 b (stepR h A (cutR A x n.toNat) (if findA h A x ≠ 0 then findA h A x else if n < 0 then 1 else 0) 1).2.1 (stepR h A (cutR A x n.toNat) (if findA h A x ≠ 0 then findA h A x else if n < 0 then 1 else 0) 1).2.2 w' := by
  have HM := Lib.hid (may_there d hok.n' x)
  have D := Lib.hid d
  by_cases hf : findA h A x = 0
  · obtain ⟨hdn, hgx, i, hi, hidx, hlk, hyx⟩ := findA_ok hf
    rw [if_neg (by simp [hf])]
    rw [hf] at HM
    by_cases hn0 : n < 0
    · rw [if_pos hn0, stepR_pre (by decide)]
      have hlt : decide (n < 0) = true := decide_eq_true hn0
      clear hf d hlk hyx hidx
      go_enter Try.func34, Try.ntmps34
      go_wp2_with fail
      refine HM.out.mono ?_
      rintro e w1 ⟨rfl, hB⟩
      have HB1 := Lib.hid hB
      clear hB
      go_wp2_with fail
      go_ret
      exact ⟨rfl, D.out.below HB1.out⟩
    · rw [if_neg hn0, stepR_ends rfl]
      have hlt : decide (n < 0) = false := decide_eq_false hn0
      obtain ⟨m, rfl⟩ : ∃ m : Nat, n = (m : Nat) := ⟨n.toNat, by omega⟩
      rw [Int.toNat_natCast]
      have HBe := Lib.hid (fun w1 (hB : Below w.heap.size w w1) => begins_any (d.below hB) hok.hd.left hok.hd.acts)
      obtain ⟨y, hy⟩ : ∃ y, A[i] = y := ⟨_, rfl⟩
      have HY := Lib.hid hy
      have HIdx := Lib.hid hidx
      rw [hy] at hlk hyx
      have HC : Hid (cutR A x m = putR A (y.1, y.2.1.take (min m y.2.1.length), min y.2.2 (min m y.2.1.length))) := Lib.hid (by unfold cutR; rw [hlk, ← hyx])
      have hysf : y.2.2 ≤ y.2.1.length := hok.s y (lookA_some hlk).1
      have htl := tot_drp_look hlk
      rw [← hyx] at htl
      have HN1 : Hid ((cutR A x m).length ≤ 1048576) := Lib.hid (by rw [HC.out]; have := putR_len (y.1, y.2.1.take (min m y.2.1.length), min y.2.2 (min m y.2.1.length)) A; have := hok.n; omega)
      have HT1 : Hid (totA (cutR A x m) ≤ 1048576) := Lib.hid (by rw [HC.out, tot_putR]; have := hok.t; simp only [List.length_take]; omega)
      have HS1 : Hid (∀ y ∈ cutR A x m, y.2.2 ≤ y.2.1.length) := Lib.hid (by rw [HC.out]; exact safe_putR hok.s (by simp only [List.length_take]; omega))
      have hyl : y.2.1.length ≤ 1048576 := by have := hok.t; omega
      have hdn2 : (actH h).down = false := hdn
      generalize decide (h.left = 1) = gs at *
      generalize doneR h = dn at *
      clear hf d hlk hyx hy hidx htl
      cases dn <;> cases gs
      · go_enter Try.func34, Try.ntmps34
        go_wp2_with fail
        refine HM.out.mono ?_
        rintro e w1 ⟨rfl, hB⟩
        have HB1 := Lib.hid hB
        clear hB
        go_wp2_with fail
        refine (HBe.out _ HB1.out).mono ?_
        rintro e w2 ⟨rfl, d2, _⟩
        have D2 := Lib.hid d2
        clear d2
        go_wp2_with fail
        refine (ends_any D2.out hdn2 hok.n' hok.t hok.s hok.k false).mono ?_
        rintro e w8 ⟨rfl, d8⟩
        have D8 := Lib.hid d8
        clear d8
        go_wp2_with fail
        go_ret
        exact ⟨rfl, D8.out⟩
      · go_enter Try.func34, Try.ntmps34
        go_wp2_with fail
        refine HM.out.mono ?_
        rintro e w1 ⟨rfl, hB⟩
        have HB1 := Lib.hid hB
        clear hB
        go_wp2_with fail
        refine (HBe.out _ HB1.out).mono ?_
        rintro e w2 ⟨rfl, d2, _⟩
        have D2 := Lib.hid d2
        clear d2
        go_wp2_with fail
        refine (ends_any D2.out hdn2 hok.n' hok.t hok.s hok.k true).mono ?_
        rintro e w8 ⟨rfl, d8⟩
        have D8 := Lib.hid d8
        clear d8
        go_wp2_with fail
        go_ret
        exact ⟨rfl, D8.out⟩
      · go_enter Try.func34, Try.ntmps34
        go_wp2_with fail
        refine HM.out.mono ?_
        rintro e w1 ⟨rfl, hB⟩
        have HB1 := Lib.hid hB
        clear hB
        go_wp2_with fail
        refine (HBe.out _ HB1.out).mono ?_
        rintro e w2 ⟨rfl, d2, _⟩
        have D2 := Lib.hid d2
        clear d2
        go_wp2_with fail
        obtain ⟨g, o, c, hrun, hat, hfl⟩ := D2.out.take hok.n' hi HIdx.out
        rw [HY.out] at hfl
        have HRun := Lib.hid hrun
        have HAt := Lib.hid hat
        have HFl := Lib.hid hfl
        have hyS : (mkB y.2.1).size = y.2.1.length := mkB_size _
        have hltI : (i : Int) < (A.length : Nat) := by omega
        have hnn : (0 : Int) ≤ (i : Nat) := by omega
        clear hrun hat hfl
        go_wp2_with fail
        by_cases hml : m < y.2.1.length
        · have g1 : decide ((m : Int) < (y.2.1.length : Nat)) = true := decide_eq_true (by omega)
          have hmm : (m : Int) ≤ (y.2.1.length : Nat) := by omega
          by_cases hms : m < y.2.2
          · have g2 : decide ((m : Int) < (y.2.2 : Nat)) = true := decide_eq_true (by omega)
            have HA1 : Hid (putR A (y.1, y.2.1.take m, m) = cutR A x m) := Lib.hid (by rw [HC.out, Nat.min_eq_left (by omega), Nat.min_eq_right (by omega)])
            have hd4 : Below w2.heap.size w2 w2.drew := (Below.refl _ _).drew
            have hRL : ∃ Rs : List (Value → World → Prop), Rs = [K3.PureV (.pointer (some ⟨b, 0, none⟩)),
                K3.PureV (.pointer (some ⟨b, 0, none⟩)),
                K3.PureV (.pointer (some ⟨b, 0, none⟩)),
                K3.PureV (.slice (some ⟨g, o, none⟩) A.length c),
                K3.PureV (.pointer (some ⟨b, 0, none⟩)),
                K3.PureV (.string x),
                K3.PureV (.int .i64 (i : Nat)),
                K3.PureV (.pointer (some ⟨g, o + i * 3, none⟩)),
                K3.PureV (.agg (fV y).toArray),
                MadeF w2.heap.size #[.string ⟨#[]⟩, .string ⟨#[]⟩, .int .i64 0],
                MadeF w2.heap.size (fV y).toArray] := ⟨_, rfl⟩
            obtain ⟨Rs, hRs⟩ := hRL
            refine K3.wp_region_rel2 w2.heap.size (Nat.le_refl _) (K3.RL Rs) [2, 2, 2, 2, 2, 2, 2, 2, 2, 1, 1] [1, 1, 1, 1, 1, 1, 1, 1, 1, 1, 2] [[], [], [], [], [], [], [], [], [], [], [9]] (by kernel_rfl) (by kernel_rfl) (K3.RL.st1 (by rw [hRs]; exact K3.st1_cons (K3.PureV.st1 _) (K3.st1_cons (K3.PureV.st1 _) (K3.st1_cons (K3.PureV.st1 _) (K3.st1_cons (K3.PureV.st1 _) (K3.st1_cons (K3.PureV.st1 _) (K3.st1_cons (K3.PureV.st1 _) (K3.st1_cons (K3.PureV.st1 _) (K3.st1_cons (K3.PureV.st1 _) (K3.st1_cons (K3.PureV.st1 _) (K3.st1_cons (MadeF.st1 _ _) (K3.st1_cons (MadeF.st1 _ _) (K3.st1_nil))))))))))))) (K3.RL.st2 (by rw [hRs]; exact K3.st2_cons (K3.PureV.st2 _ _ _) (K3.st2_cons (K3.PureV.st2 _ _ _) (K3.st2_cons (K3.PureV.st2 _ _ _) (K3.st2_cons (K3.PureV.st2 _ _ _) (K3.st2_cons (K3.PureV.st2 _ _ _) (K3.st2_cons (K3.PureV.st2 _ _ _) (K3.st2_cons (K3.PureV.st2 _ _ _) (K3.st2_cons (K3.PureV.st2 _ _ _) (K3.st2_cons (K3.PureV.st2 _ _ _) (K3.st2_skip (K3.st2_skip (K3.st2_nil))))))))))))) ?_ ?_ ?_
            · intro i o d hi hd
              have hmem := List.mem_of_getElem? hi
              simp only [List.mem_cons, List.not_mem_nil, or_false] at hmem
              rcases hmem with rfl | rfl | rfl | rfl | rfl | rfl | rfl | rfl | rfl | rfl | rfl <;> simp at hd <;> (subst hd; simp)
            · refine K3.rel_start (Φ := K3.Hop _ _ _ _ _ _ _) ?_
              refine K3.rel_cons (Φ := K3.Hop _ _ _ _ _ _ _) (k := 0) ?_ ?_
              · intro fa fw hfB hfN hfE hfk hft
                have k0 : fa.eval (.tmp 0) = .pointer (some ⟨b, 0, none⟩) := hft 0 (K3.mem_looks (by kernel_rfl)) (K3.noneed (by kernel_rfl))
                rw [hRs]
                refine K3.hop_plain rfl ?_
                refine K3.out_move rfl ?_
                exact ⟨k0, Below.refl _ _⟩
              refine K3.rel_cons (Φ := K3.Hop _ _ _ _ _ _ _) (k := 1) ?_ ?_
              · intro fa fw hfB hfN hfE hfk hft
                have k25 : fa.eval (.tmp 25) = (.pointer (some ⟨b, 0, none⟩)) := by have := hfk 0 (K3.mem_needs (by kernel_rfl)) _ rfl; rw [hRs] at this; exact this
                rw [hRs]
                refine K3.hop_plain rfl ?_
                have kc : ∀ v, fa.eval (.const v) = v := fun _ => rfl
                generalize fa.eval = ρ at *
                exact K3.out_run (v := .pointer (some ⟨b, 0, none⟩)) (w' := fw) (by simp [execOp, kc, k25, go_sem]) ⟨rfl, Below.refl _ _⟩
              refine K3.rel_cons (Φ := K3.Hop _ _ _ _ _ _ _) (k := 2) ?_ ?_
              · intro fa fw hfB hfN hfE hfk hft
                have k26 : fa.eval (.tmp 26) = (.pointer (some ⟨b, 0, none⟩)) := by have := hfk 1 (K3.mem_needs (by kernel_rfl)) _ rfl; rw [hRs] at this; exact this
                rw [hRs]
                refine K3.hop_plain rfl ?_
                have kc : ∀ v, fa.eval (.const v) = v := fun _ => rfl
                generalize fa.eval = ρ at *
                exact K3.out_run (v := .pointer (some ⟨b, 0, none⟩)) (w' := fw) (by simp [execOp, kc, k26, go_sem]) ⟨rfl, Below.refl _ _⟩
              refine K3.rel_cons (Φ := K3.Hop _ _ _ _ _ _ _) (k := 3) ?_ ?_
              · intro fa fw hfB hfN hfE hfk hft
                have k27 : fa.eval (.tmp 27) = (.pointer (some ⟨b, 0, none⟩)) := by have := hfk 2 (K3.mem_needs (by kernel_rfl)) _ rfl; rw [hRs] at this; exact this
                rw [hRs]
                refine K3.hop_plain rfl ?_
                exact out_load3 rfl k27 (HRun.out fw (hd4.trans hfB)) ⟨rfl, Below.refl _ _⟩
              refine K3.rel_cons (Φ := K3.Hop _ _ _ _ _ _ _) (k := 4) ?_ ?_
              · intro fa fw hfB hfN hfE hfk hft
                have k0 : fa.eval (.tmp 0) = .pointer (some ⟨b, 0, none⟩) := hft 0 (K3.mem_looks (by kernel_rfl)) (K3.noneed (by kernel_rfl))
                rw [hRs]
                refine K3.hop_plain rfl ?_
                refine K3.out_move rfl ?_
                exact ⟨k0, Below.refl _ _⟩
              refine K3.rel_cons (Φ := K3.Hop _ _ _ _ _ _ _) (k := 5) ?_ ?_
              · intro fa fw hfB hfN hfE hfk hft
                have k1 : fa.eval (.tmp 1) = .string x := hft 1 (K3.mem_looks (by kernel_rfl)) (K3.noneed (by kernel_rfl))
                rw [hRs]
                refine K3.hop_plain rfl ?_
                refine K3.out_move rfl ?_
                exact ⟨k1, Below.refl _ _⟩
              refine K3.rel_cons (Φ := K3.Hop _ _ _ _ _ _ _) (k := 6) ?_ ?_
              · intro fa fw hfB hfN hfE hfk hft
                have k29 : fa.eval (.tmp 29) = (.pointer (some ⟨b, 0, none⟩)) := by have := hfk 4 (K3.mem_needs (by kernel_rfl)) _ rfl; rw [hRs] at this; exact this
                have k30 : fa.eval (.tmp 30) = (.string x) := by have := hfk 5 (K3.mem_needs (by kernel_rfl)) _ rfl; rw [hRs] at this; exact this
                rw [hRs]
                refine K3.hop_plain rfl ?_
                have kf : fa.eval (.func 43) = .func (.func 43) #[] #[] := rfl
                refine K3.out_call (f := 43) (args := #[fa.eval (.tmp 29), fa.eval (.tmp 30)]) (by generalize fa.eval = ρ at *; simp [execOp, kf, go_sem]) ?_
                rw [k29, k30]
                exact (HAt.out fw (hd4.trans hfB)).mono fun e w' ⟨he, hw⟩ => ⟨_, he, rfl, hw⟩
              refine K3.rel_cons (Φ := K3.Hop _ _ _ _ _ _ _) (k := 7) ?_ ?_
              · intro fa fw hfB hfN hfE hfk hft
                have k28 : fa.eval (.tmp 28) = (.slice (some ⟨g, o, none⟩) A.length c) := by have := hfk 3 (K3.mem_needs (by kernel_rfl)) _ rfl; rw [hRs] at this; exact this
                have k31 : fa.eval (.tmp 31) = (.int .i64 (i : Nat)) := by have := hfk 6 (K3.mem_needs (by kernel_rfl)) _ rfl; rw [hRs] at this; exact this
                rw [hRs]
                refine K3.hop_plain rfl ?_
                have kc : ∀ v, fa.eval (.const v) = v := fun _ => rfl
                generalize fa.eval = ρ at *
                exact K3.out_run (v := .pointer (some ⟨g, o + i * 3, none⟩)) (w' := fw) (by simp [execOp, kc, k28, k31, go_sem, hltI, hnn]) ⟨rfl, Below.refl _ _⟩
              refine K3.rel_cons (Φ := K3.Hop _ _ _ _ _ _ _) (k := 8) ?_ ?_
              · intro fa fw hfB hfN hfE hfk hft
                have k32 : fa.eval (.tmp 32) = (.pointer (some ⟨g, o + i * 3, none⟩)) := by have := hfk 7 (K3.mem_needs (by kernel_rfl)) _ rfl; rw [hRs] at this; exact this
                rw [hRs]
                refine K3.hop_plain rfl ?_
                exact out_load3 rfl k32 (HFl.out fw (hd4.trans hfB)) ⟨rfl, Below.refl _ _⟩
              refine K3.rel_cons (Φ := K3.Hop _ _ _ _ _ _ _) (k := 9) ?_ ?_
              · intro fa fw hfB hfN hfE hfk hft
                rw [hRs]
                refine K3.hop_plain rfl ?_
                generalize fa.eval = ρ at *
                exact K3.out_run (v := .pointer (some ⟨fw.heap.size, 0, none⟩)) (w' := fw.alloc (.cells #[.string ⟨#[]⟩, .string ⟨#[]⟩, .int .i64 0] 68)) (by simp [execOp, go_sem]) ⟨⟨fw.heap.size, hfN, rfl, heap_alloc_new _ _⟩, (Below.refl _ _).alloc (Nat.le_refl _) _⟩
              refine K3.rel_cons (Φ := K3.Hop _ _ _ _ _ _ _) (k := 10) ?_ ?_
              · intro fa fw hfB hfN hfE hfk hft
                have k10 : (MadeF w2.heap.size #[.string ⟨#[]⟩, .string ⟨#[]⟩, .int .i64 0]) (fa.eval (.tmp 10)) fw := by have := hfk 9 (K3.mem_needs (by kernel_rfl)) _ rfl; rw [hRs] at this; exact this
                have k33 : fa.eval (.tmp 33) = (.agg (fV y).toArray) := by have := hfk 8 (K3.mem_needs (by kernel_rfl)) _ rfl; rw [hRs] at this; exact this
                rw [hRs]
                refine K3.hop_plain rfl ?_
                obtain ⟨B, hB0, hBv, hBh⟩ := k10.e
                exact out_storeF rfl (show fa.eval (.tmp 10) = _ from hBv) k33 hBh (fV_size y) rfl (fV_all y) ⟨(show MadeF w2.heap.size (fV y).toArray (fa.tmps.getD 10 undef) _ from ⟨B, hB0, hBv, setRow_heap _ _ _ _ _ _ hBh⟩), below_setRow (Below.refl _ _) hB0 _⟩
              exact K3.rel_nil
            · intro fa fw hfB hfy hff hfs hfd
              rw [hRs] at hfy
              have k10 : MadeF w2.heap.size (fV y).toArray (fa.tmps.getD 10 undef) fw := hfy 10 _ rfl (K3.unkilled (by decide))
              have HBf := Lib.hid (show Below w2.heap.size w2 fw from hd4.trans hfB)
              have e := K3.rel_frame [25, 26, 27, 28, 29, 30, 31, 32, 33, 10] (by kernel_rfl) hff hfs hfd
              simp only [List.foldl] at e
              clear hfy hff hfs hfd 
              generalize fa.tmps.getD 25 undef = x25 at e
              generalize fa.tmps.getD 26 undef = x26 at e
              generalize fa.tmps.getD 27 undef = x27 at e
              generalize fa.tmps.getD 28 undef = x28 at e
              generalize fa.tmps.getD 29 undef = x29 at e
              generalize fa.tmps.getD 30 undef = x30 at e
              generalize fa.tmps.getD 31 undef = x31 at e
              generalize fa.tmps.getD 32 undef = x32 at e
              generalize fa.tmps.getD 33 undef = x33 at e
              generalize fa.tmps.getD 10 undef = x10 at e k10
              simp [List.setIfInBounds_toArray, List.set_cons_succ, List.set_cons_zero] at e
              subst e
              obtain ⟨B, hB0, rfl, hBh⟩ := k10.e
              clear k10 hfB
              have c1 : fw.cell? ⟨B, 1, none⟩ = some (.string (mkB y.2.1)) := block_cell hBh 1
              have c2 : fw.cell? ⟨B, 2, none⟩ = some (.int .i64 (y.2.2 : Nat)) := block_cell hBh 2
              have f1 := block_free hBh 1
              have hB1 := block_set (i := 1) (u := .string (mkB (y.2.1.take m))) hBh
              have c1b : (fw.setCell ⟨B, 1, none⟩ (.string (mkB (y.2.1.take m)))).cell? ⟨B, 1, none⟩ = some (.string (mkB (y.2.1.take m))) := block_cell hB1 1
              have c2b : (fw.setCell ⟨B, 1, none⟩ (.string (mkB (y.2.1.take m)))).cell? ⟨B, 2, none⟩ = some (.int .i64 (y.2.2 : Nat)) := block_cell hB1 2
              have f2 := block_free hB1 2
              have hex : (mkB y.2.1).extract 0 m = mkB (y.2.1.take m) := mkB_take _ _
              have hlS : (mkB (y.2.1.take m)).size = m := by rw [mkB_size, List.length_take]; omega
              have hB2 := block_set (i := 2) (u := .int .i64 (m : Nat)) hB1
              have Hr2 : Hid (((fw.setCell ⟨B, 1, none⟩ (.string (mkB (y.2.1.take m)))).setCell ⟨B, 2, none⟩ (.int .i64 (m : Nat))).rangeAt B 0 (fV (y.1, y.2.1.take m, m))) := Lib.hid (box_range hB2)
              have HB2 : Hid (Below w2.heap.size w2 ((fw.setCell ⟨B, 1, none⟩ (.string (mkB (y.2.1.take m)))).setCell ⟨B, 2, none⟩ (.int .i64 (m : Nat)))) := Lib.hid ((HBf.out.setCell (by show w2.heap.size ≤ B; exact hB0) _).setCell (by show w2.heap.size ≤ B; exact hB0) _)
              clear hBh hB0 hB1 hB2
              go_wp2_with (first | (refine wpList_load_mid rfl 68 (.tmp 10) rfl B 0 rfl [.string y.1, .string (mkB (y.2.1.take m)), .int .i64 (m : Nat)] _ Hr2.out Try.underlying68 rfl fV_info ?_))
              refine (putR_any (D2.out.below HB2.out) hok.n' (y.1, y.2.1.take m, m)).mono ?_
              rintro e w5 ⟨rfl, d5⟩
              have D5 := Lib.hid (Rd.castA HA1.out d5)
              clear d5
              go_wp2_with fail
              refine (ends_any D5.out hdn2 HN1.out HT1.out HS1.out hok.k false).mono ?_
              rintro e w8 ⟨rfl, d8⟩
              have D8 := Lib.hid d8
              clear d8
              go_wp2_with fail
              go_ret
              exact ⟨rfl, D8.out⟩
          · have g2 : decide ((m : Int) < (y.2.2 : Nat)) = false := decide_eq_false (by omega)
            have HA1 : Hid (putR A (y.1, y.2.1.take m, y.2.2) = cutR A x m) := Lib.hid (by rw [HC.out, Nat.min_eq_left (by omega), Nat.min_eq_left (by omega)])
            have hd4 : Below w2.heap.size w2 w2.drew := (Below.refl _ _).drew
            have hRL : ∃ Rs : List (Value → World → Prop), Rs = [K3.PureV (.pointer (some ⟨b, 0, none⟩)),
                K3.PureV (.pointer (some ⟨b, 0, none⟩)),
                K3.PureV (.pointer (some ⟨b, 0, none⟩)),
                K3.PureV (.slice (some ⟨g, o, none⟩) A.length c),
                K3.PureV (.pointer (some ⟨b, 0, none⟩)),
                K3.PureV (.string x),
                K3.PureV (.int .i64 (i : Nat)),
                K3.PureV (.pointer (some ⟨g, o + i * 3, none⟩)),
                K3.PureV (.agg (fV y).toArray),
                MadeF w2.heap.size #[.string ⟨#[]⟩, .string ⟨#[]⟩, .int .i64 0],
                MadeF w2.heap.size (fV y).toArray] := ⟨_, rfl⟩
            obtain ⟨Rs, hRs⟩ := hRL
            refine K3.wp_region_rel2 w2.heap.size (Nat.le_refl _) (K3.RL Rs) [2, 2, 2, 2, 2, 2, 2, 2, 2, 1, 1] [1, 1, 1, 1, 1, 1, 1, 1, 1, 1, 2] [[], [], [], [], [], [], [], [], [], [], [9]] (by kernel_rfl) (by kernel_rfl) (K3.RL.st1 (by rw [hRs]; exact K3.st1_cons (K3.PureV.st1 _) (K3.st1_cons (K3.PureV.st1 _) (K3.st1_cons (K3.PureV.st1 _) (K3.st1_cons (K3.PureV.st1 _) (K3.st1_cons (K3.PureV.st1 _) (K3.st1_cons (K3.PureV.st1 _) (K3.st1_cons (K3.PureV.st1 _) (K3.st1_cons (K3.PureV.st1 _) (K3.st1_cons (K3.PureV.st1 _) (K3.st1_cons (MadeF.st1 _ _) (K3.st1_cons (MadeF.st1 _ _) (K3.st1_nil))))))))))))) (K3.RL.st2 (by rw [hRs]; exact K3.st2_cons (K3.PureV.st2 _ _ _) (K3.st2_cons (K3.PureV.st2 _ _ _) (K3.st2_cons (K3.PureV.st2 _ _ _) (K3.st2_cons (K3.PureV.st2 _ _ _) (K3.st2_cons (K3.PureV.st2 _ _ _) (K3.st2_cons (K3.PureV.st2 _ _ _) (K3.st2_cons (K3.PureV.st2 _ _ _) (K3.st2_cons (K3.PureV.st2 _ _ _) (K3.st2_cons (K3.PureV.st2 _ _ _) (K3.st2_skip (K3.st2_skip (K3.st2_nil))))))))))))) ?_ ?_ ?_
            · intro i o d hi hd
              have hmem := List.mem_of_getElem? hi
              simp only [List.mem_cons, List.not_mem_nil, or_false] at hmem
              rcases hmem with rfl | rfl | rfl | rfl | rfl | rfl | rfl | rfl | rfl | rfl | rfl <;> simp at hd <;> (subst hd; simp)
            · refine K3.rel_start (Φ := K3.Hop _ _ _ _ _ _ _) ?_
              refine K3.rel_cons (Φ := K3.Hop _ _ _ _ _ _ _) (k := 0) ?_ ?_
              · intro fa fw hfB hfN hfE hfk hft
                have k0 : fa.eval (.tmp 0) = .pointer (some ⟨b, 0, none⟩) := hft 0 (K3.mem_looks (by kernel_rfl)) (K3.noneed (by kernel_rfl))
                rw [hRs]
                refine K3.hop_plain rfl ?_
                refine K3.out_move rfl ?_
                exact ⟨k0, Below.refl _ _⟩
              refine K3.rel_cons (Φ := K3.Hop _ _ _ _ _ _ _) (k := 1) ?_ ?_
              · intro fa fw hfB hfN hfE hfk hft
                have k25 : fa.eval (.tmp 25) = (.pointer (some ⟨b, 0, none⟩)) := by have := hfk 0 (K3.mem_needs (by kernel_rfl)) _ rfl; rw [hRs] at this; exact this
                rw [hRs]
                refine K3.hop_plain rfl ?_
                have kc : ∀ v, fa.eval (.const v) = v := fun _ => rfl
                generalize fa.eval = ρ at *
                exact K3.out_run (v := .pointer (some ⟨b, 0, none⟩)) (w' := fw) (by simp [execOp, kc, k25, go_sem]) ⟨rfl, Below.refl _ _⟩
              refine K3.rel_cons (Φ := K3.Hop _ _ _ _ _ _ _) (k := 2) ?_ ?_
              · intro fa fw hfB hfN hfE hfk hft
                have k26 : fa.eval (.tmp 26) = (.pointer (some ⟨b, 0, none⟩)) := by have := hfk 1 (K3.mem_needs (by kernel_rfl)) _ rfl; rw [hRs] at this; exact this
                rw [hRs]
                refine K3.hop_plain rfl ?_
                have kc : ∀ v, fa.eval (.const v) = v := fun _ => rfl
                generalize fa.eval = ρ at *
                exact K3.out_run (v := .pointer (some ⟨b, 0, none⟩)) (w' := fw) (by simp [execOp, kc, k26, go_sem]) ⟨rfl, Below.refl _ _⟩
              refine K3.rel_cons (Φ := K3.Hop _ _ _ _ _ _ _) (k := 3) ?_ ?_
              · intro fa fw hfB hfN hfE hfk hft
                have k27 : fa.eval (.tmp 27) = (.pointer (some ⟨b, 0, none⟩)) := by have := hfk 2 (K3.mem_needs (by kernel_rfl)) _ rfl; rw [hRs] at this; exact this
                rw [hRs]
                refine K3.hop_plain rfl ?_
                exact out_load3 rfl k27 (HRun.out fw (hd4.trans hfB)) ⟨rfl, Below.refl _ _⟩
              refine K3.rel_cons (Φ := K3.Hop _ _ _ _ _ _ _) (k := 4) ?_ ?_
              · intro fa fw hfB hfN hfE hfk hft
                have k0 : fa.eval (.tmp 0) = .pointer (some ⟨b, 0, none⟩) := hft 0 (K3.mem_looks (by kernel_rfl)) (K3.noneed (by kernel_rfl))
                rw [hRs]
                refine K3.hop_plain rfl ?_
                refine K3.out_move rfl ?_
                exact ⟨k0, Below.refl _ _⟩
              refine K3.rel_cons (Φ := K3.Hop _ _ _ _ _ _ _) (k := 5) ?_ ?_
              · intro fa fw hfB hfN hfE hfk hft
                have k1 : fa.eval (.tmp 1) = .string x := hft 1 (K3.mem_looks (by kernel_rfl)) (K3.noneed (by kernel_rfl))
                rw [hRs]
                refine K3.hop_plain rfl ?_
                refine K3.out_move rfl ?_
                exact ⟨k1, Below.refl _ _⟩
              refine K3.rel_cons (Φ := K3.Hop _ _ _ _ _ _ _) (k := 6) ?_ ?_
              · intro fa fw hfB hfN hfE hfk hft
                have k29 : fa.eval (.tmp 29) = (.pointer (some ⟨b, 0, none⟩)) := by have := hfk 4 (K3.mem_needs (by kernel_rfl)) _ rfl; rw [hRs] at this; exact this
                have k30 : fa.eval (.tmp 30) = (.string x) := by have := hfk 5 (K3.mem_needs (by kernel_rfl)) _ rfl; rw [hRs] at this; exact this
                rw [hRs]
                refine K3.hop_plain rfl ?_
                have kf : fa.eval (.func 43) = .func (.func 43) #[] #[] := rfl
                refine K3.out_call (f := 43) (args := #[fa.eval (.tmp 29), fa.eval (.tmp 30)]) (by generalize fa.eval = ρ at *; simp [execOp, kf, go_sem]) ?_
                rw [k29, k30]
                exact (HAt.out fw (hd4.trans hfB)).mono fun e w' ⟨he, hw⟩ => ⟨_, he, rfl, hw⟩
              refine K3.rel_cons (Φ := K3.Hop _ _ _ _ _ _ _) (k := 7) ?_ ?_
              · intro fa fw hfB hfN hfE hfk hft
                have k28 : fa.eval (.tmp 28) = (.slice (some ⟨g, o, none⟩) A.length c) := by have := hfk 3 (K3.mem_needs (by kernel_rfl)) _ rfl; rw [hRs] at this; exact this
                have k31 : fa.eval (.tmp 31) = (.int .i64 (i : Nat)) := by have := hfk 6 (K3.mem_needs (by kernel_rfl)) _ rfl; rw [hRs] at this; exact this
                rw [hRs]
                refine K3.hop_plain rfl ?_
                have kc : ∀ v, fa.eval (.const v) = v := fun _ => rfl
                generalize fa.eval = ρ at *
                exact K3.out_run (v := .pointer (some ⟨g, o + i * 3, none⟩)) (w' := fw) (by simp [execOp, kc, k28, k31, go_sem, hltI, hnn]) ⟨rfl, Below.refl _ _⟩
              refine K3.rel_cons (Φ := K3.Hop _ _ _ _ _ _ _) (k := 8) ?_ ?_
              · intro fa fw hfB hfN hfE hfk hft
                have k32 : fa.eval (.tmp 32) = (.pointer (some ⟨g, o + i * 3, none⟩)) := by have := hfk 7 (K3.mem_needs (by kernel_rfl)) _ rfl; rw [hRs] at this; exact this
                rw [hRs]
                refine K3.hop_plain rfl ?_
                exact out_load3 rfl k32 (HFl.out fw (hd4.trans hfB)) ⟨rfl, Below.refl _ _⟩
              refine K3.rel_cons (Φ := K3.Hop _ _ _ _ _ _ _) (k := 9) ?_ ?_
              · intro fa fw hfB hfN hfE hfk hft
                rw [hRs]
                refine K3.hop_plain rfl ?_
                generalize fa.eval = ρ at *
                exact K3.out_run (v := .pointer (some ⟨fw.heap.size, 0, none⟩)) (w' := fw.alloc (.cells #[.string ⟨#[]⟩, .string ⟨#[]⟩, .int .i64 0] 68)) (by simp [execOp, go_sem]) ⟨⟨fw.heap.size, hfN, rfl, heap_alloc_new _ _⟩, (Below.refl _ _).alloc (Nat.le_refl _) _⟩
              refine K3.rel_cons (Φ := K3.Hop _ _ _ _ _ _ _) (k := 10) ?_ ?_
              · intro fa fw hfB hfN hfE hfk hft
                have k10 : (MadeF w2.heap.size #[.string ⟨#[]⟩, .string ⟨#[]⟩, .int .i64 0]) (fa.eval (.tmp 10)) fw := by have := hfk 9 (K3.mem_needs (by kernel_rfl)) _ rfl; rw [hRs] at this; exact this
                have k33 : fa.eval (.tmp 33) = (.agg (fV y).toArray) := by have := hfk 8 (K3.mem_needs (by kernel_rfl)) _ rfl; rw [hRs] at this; exact this
                rw [hRs]
                refine K3.hop_plain rfl ?_
                obtain ⟨B, hB0, hBv, hBh⟩ := k10.e
                exact out_storeF rfl (show fa.eval (.tmp 10) = _ from hBv) k33 hBh (fV_size y) rfl (fV_all y) ⟨(show MadeF w2.heap.size (fV y).toArray (fa.tmps.getD 10 undef) _ from ⟨B, hB0, hBv, setRow_heap _ _ _ _ _ _ hBh⟩), below_setRow (Below.refl _ _) hB0 _⟩
              exact K3.rel_nil
            · intro fa fw hfB hfy hff hfs hfd
              rw [hRs] at hfy
              have k10 : MadeF w2.heap.size (fV y).toArray (fa.tmps.getD 10 undef) fw := hfy 10 _ rfl (K3.unkilled (by decide))
              have HBf := Lib.hid (show Below w2.heap.size w2 fw from hd4.trans hfB)
              have e := K3.rel_frame [25, 26, 27, 28, 29, 30, 31, 32, 33, 10] (by kernel_rfl) hff hfs hfd
              simp only [List.foldl] at e
              clear hfy hff hfs hfd 
              generalize fa.tmps.getD 25 undef = x25 at e
              generalize fa.tmps.getD 26 undef = x26 at e
              generalize fa.tmps.getD 27 undef = x27 at e
              generalize fa.tmps.getD 28 undef = x28 at e
              generalize fa.tmps.getD 29 undef = x29 at e
              generalize fa.tmps.getD 30 undef = x30 at e
              generalize fa.tmps.getD 31 undef = x31 at e
              generalize fa.tmps.getD 32 undef = x32 at e
              generalize fa.tmps.getD 33 undef = x33 at e
              generalize fa.tmps.getD 10 undef = x10 at e k10
              simp [List.setIfInBounds_toArray, List.set_cons_succ, List.set_cons_zero] at e
              subst e
              obtain ⟨B, hB0, rfl, hBh⟩ := k10.e
              clear k10 hfB
              have c1 : fw.cell? ⟨B, 1, none⟩ = some (.string (mkB y.2.1)) := block_cell hBh 1
              have c2 : fw.cell? ⟨B, 2, none⟩ = some (.int .i64 (y.2.2 : Nat)) := block_cell hBh 2
              have f1 := block_free hBh 1
              have hB1 := block_set (i := 1) (u := .string (mkB (y.2.1.take m))) hBh
              have c1b : (fw.setCell ⟨B, 1, none⟩ (.string (mkB (y.2.1.take m)))).cell? ⟨B, 1, none⟩ = some (.string (mkB (y.2.1.take m))) := block_cell hB1 1
              have c2b : (fw.setCell ⟨B, 1, none⟩ (.string (mkB (y.2.1.take m)))).cell? ⟨B, 2, none⟩ = some (.int .i64 (y.2.2 : Nat)) := block_cell hB1 2
              have f2 := block_free hB1 2
              have hex : (mkB y.2.1).extract 0 m = mkB (y.2.1.take m) := mkB_take _ _
              have hlS : (mkB (y.2.1.take m)).size = m := by rw [mkB_size, List.length_take]; omega
              have Hr2 : Hid ((fw.setCell ⟨B, 1, none⟩ (.string (mkB (y.2.1.take m)))).rangeAt B 0 (fV (y.1, y.2.1.take m, y.2.2))) := Lib.hid (box_range hB1)
              have HB2 : Hid (Below w2.heap.size w2 (fw.setCell ⟨B, 1, none⟩ (.string (mkB (y.2.1.take m))))) := Lib.hid (HBf.out.setCell (by show w2.heap.size ≤ B; exact hB0) _)
              clear hBh hB0 hB1
              go_wp2_with (first | (refine wpList_load_mid rfl 68 (.tmp 10) rfl B 0 rfl [.string y.1, .string (mkB (y.2.1.take m)), .int .i64 (y.2.2 : Nat)] _ Hr2.out Try.underlying68 rfl fV_info ?_))
              refine (putR_any (D2.out.below HB2.out) hok.n' (y.1, y.2.1.take m, y.2.2)).mono ?_
              rintro e w5 ⟨rfl, d5⟩
              have D5 := Lib.hid (Rd.castA HA1.out d5)
              clear d5
              go_wp2_with fail
              refine (ends_any D5.out hdn2 HN1.out HT1.out HS1.out hok.k false).mono ?_
              rintro e w8 ⟨rfl, d8⟩
              have D8 := Lib.hid d8
              clear d8
              go_wp2_with fail
              go_ret
              exact ⟨rfl, D8.out⟩
        · have g1 : decide ((m : Int) < (y.2.1.length : Nat)) = false := decide_eq_false (by omega)
          have g2 : decide ((y.2.1.length : Int) < (y.2.2 : Nat)) = false := decide_eq_false (by omega)
          have HA1 : Hid (putR A (y.1, y.2.1, y.2.2) = cutR A x m) := Lib.hid (by rw [HC.out, Nat.min_eq_right (by omega), Nat.min_eq_left (by omega), List.take_length])
          have hd4 : Below w2.heap.size w2 w2.drew := (Below.refl _ _).drew
          have hRL : ∃ Rs : List (Value → World → Prop), Rs = [K3.PureV (.pointer (some ⟨b, 0, none⟩)),
              K3.PureV (.pointer (some ⟨b, 0, none⟩)),
              K3.PureV (.pointer (some ⟨b, 0, none⟩)),
              K3.PureV (.slice (some ⟨g, o, none⟩) A.length c),
              K3.PureV (.pointer (some ⟨b, 0, none⟩)),
              K3.PureV (.string x),
              K3.PureV (.int .i64 (i : Nat)),
              K3.PureV (.pointer (some ⟨g, o + i * 3, none⟩)),
              K3.PureV (.agg (fV y).toArray),
              MadeF w2.heap.size #[.string ⟨#[]⟩, .string ⟨#[]⟩, .int .i64 0],
              MadeF w2.heap.size (fV y).toArray] := ⟨_, rfl⟩
          obtain ⟨Rs, hRs⟩ := hRL
          refine K3.wp_region_rel2 w2.heap.size (Nat.le_refl _) (K3.RL Rs) [2, 2, 2, 2, 2, 2, 2, 2, 2, 1, 1] [1, 1, 1, 1, 1, 1, 1, 1, 1, 1, 2] [[], [], [], [], [], [], [], [], [], [], [9]] (by kernel_rfl) (by kernel_rfl) (K3.RL.st1 (by rw [hRs]; exact K3.st1_cons (K3.PureV.st1 _) (K3.st1_cons (K3.PureV.st1 _) (K3.st1_cons (K3.PureV.st1 _) (K3.st1_cons (K3.PureV.st1 _) (K3.st1_cons (K3.PureV.st1 _) (K3.st1_cons (K3.PureV.st1 _) (K3.st1_cons (K3.PureV.st1 _) (K3.st1_cons (K3.PureV.st1 _) (K3.st1_cons (K3.PureV.st1 _) (K3.st1_cons (MadeF.st1 _ _) (K3.st1_cons (MadeF.st1 _ _) (K3.st1_nil))))))))))))) (K3.RL.st2 (by rw [hRs]; exact K3.st2_cons (K3.PureV.st2 _ _ _) (K3.st2_cons (K3.PureV.st2 _ _ _) (K3.st2_cons (K3.PureV.st2 _ _ _) (K3.st2_cons (K3.PureV.st2 _ _ _) (K3.st2_cons (K3.PureV.st2 _ _ _) (K3.st2_cons (K3.PureV.st2 _ _ _) (K3.st2_cons (K3.PureV.st2 _ _ _) (K3.st2_cons (K3.PureV.st2 _ _ _) (K3.st2_cons (K3.PureV.st2 _ _ _) (K3.st2_skip (K3.st2_skip (K3.st2_nil))))))))))))) ?_ ?_ ?_
          · intro i o d hi hd
            have hmem := List.mem_of_getElem? hi
            simp only [List.mem_cons, List.not_mem_nil, or_false] at hmem
            rcases hmem with rfl | rfl | rfl | rfl | rfl | rfl | rfl | rfl | rfl | rfl | rfl <;> simp at hd <;> (subst hd; simp)
          · refine K3.rel_start (Φ := K3.Hop _ _ _ _ _ _ _) ?_
            refine K3.rel_cons (Φ := K3.Hop _ _ _ _ _ _ _) (k := 0) ?_ ?_
            · intro fa fw hfB hfN hfE hfk hft
              have k0 : fa.eval (.tmp 0) = .pointer (some ⟨b, 0, none⟩) := hft 0 (K3.mem_looks (by kernel_rfl)) (K3.noneed (by kernel_rfl))
              rw [hRs]
              refine K3.hop_plain rfl ?_
              refine K3.out_move rfl ?_
              exact ⟨k0, Below.refl _ _⟩
            refine K3.rel_cons (Φ := K3.Hop _ _ _ _ _ _ _) (k := 1) ?_ ?_
            · intro fa fw hfB hfN hfE hfk hft
              have k25 : fa.eval (.tmp 25) = (.pointer (some ⟨b, 0, none⟩)) := by have := hfk 0 (K3.mem_needs (by kernel_rfl)) _ rfl; rw [hRs] at this; exact this
              rw [hRs]
              refine K3.hop_plain rfl ?_
              have kc : ∀ v, fa.eval (.const v) = v := fun _ => rfl
              generalize fa.eval = ρ at *
              exact K3.out_run (v := .pointer (some ⟨b, 0, none⟩)) (w' := fw) (by simp [execOp, kc, k25, go_sem]) ⟨rfl, Below.refl _ _⟩
            refine K3.rel_cons (Φ := K3.Hop _ _ _ _ _ _ _) (k := 2) ?_ ?_
            · intro fa fw hfB hfN hfE hfk hft
              have k26 : fa.eval (.tmp 26) = (.pointer (some ⟨b, 0, none⟩)) := by have := hfk 1 (K3.mem_needs (by kernel_rfl)) _ rfl; rw [hRs] at this; exact this
              rw [hRs]
              refine K3.hop_plain rfl ?_
              have kc : ∀ v, fa.eval (.const v) = v := fun _ => rfl
              generalize fa.eval = ρ at *
              exact K3.out_run (v := .pointer (some ⟨b, 0, none⟩)) (w' := fw) (by simp [execOp, kc, k26, go_sem]) ⟨rfl, Below.refl _ _⟩
            refine K3.rel_cons (Φ := K3.Hop _ _ _ _ _ _ _) (k := 3) ?_ ?_
            · intro fa fw hfB hfN hfE hfk hft
              have k27 : fa.eval (.tmp 27) = (.pointer (some ⟨b, 0, none⟩)) := by have := hfk 2 (K3.mem_needs (by kernel_rfl)) _ rfl; rw [hRs] at this; exact this
              rw [hRs]
              refine K3.hop_plain rfl ?_
              exact out_load3 rfl k27 (HRun.out fw (hd4.trans hfB)) ⟨rfl, Below.refl _ _⟩
            refine K3.rel_cons (Φ := K3.Hop _ _ _ _ _ _ _) (k := 4) ?_ ?_
            · intro fa fw hfB hfN hfE hfk hft
              have k0 : fa.eval (.tmp 0) = .pointer (some ⟨b, 0, none⟩) := hft 0 (K3.mem_looks (by kernel_rfl)) (K3.noneed (by kernel_rfl))
              rw [hRs]
              refine K3.hop_plain rfl ?_
              refine K3.out_move rfl ?_
              exact ⟨k0, Below.refl _ _⟩
            refine K3.rel_cons (Φ := K3.Hop _ _ _ _ _ _ _) (k := 5) ?_ ?_
            · intro fa fw hfB hfN hfE hfk hft
              have k1 : fa.eval (.tmp 1) = .string x := hft 1 (K3.mem_looks (by kernel_rfl)) (K3.noneed (by kernel_rfl))
              rw [hRs]
              refine K3.hop_plain rfl ?_
              refine K3.out_move rfl ?_
              exact ⟨k1, Below.refl _ _⟩
            refine K3.rel_cons (Φ := K3.Hop _ _ _ _ _ _ _) (k := 6) ?_ ?_
            · intro fa fw hfB hfN hfE hfk hft
              have k29 : fa.eval (.tmp 29) = (.pointer (some ⟨b, 0, none⟩)) := by have := hfk 4 (K3.mem_needs (by kernel_rfl)) _ rfl; rw [hRs] at this; exact this
              have k30 : fa.eval (.tmp 30) = (.string x) := by have := hfk 5 (K3.mem_needs (by kernel_rfl)) _ rfl; rw [hRs] at this; exact this
              rw [hRs]
              refine K3.hop_plain rfl ?_
              have kf : fa.eval (.func 43) = .func (.func 43) #[] #[] := rfl
              refine K3.out_call (f := 43) (args := #[fa.eval (.tmp 29), fa.eval (.tmp 30)]) (by generalize fa.eval = ρ at *; simp [execOp, kf, go_sem]) ?_
              rw [k29, k30]
              exact (HAt.out fw (hd4.trans hfB)).mono fun e w' ⟨he, hw⟩ => ⟨_, he, rfl, hw⟩
            refine K3.rel_cons (Φ := K3.Hop _ _ _ _ _ _ _) (k := 7) ?_ ?_
            · intro fa fw hfB hfN hfE hfk hft
              have k28 : fa.eval (.tmp 28) = (.slice (some ⟨g, o, none⟩) A.length c) := by have := hfk 3 (K3.mem_needs (by kernel_rfl)) _ rfl; rw [hRs] at this; exact this
              have k31 : fa.eval (.tmp 31) = (.int .i64 (i : Nat)) := by have := hfk 6 (K3.mem_needs (by kernel_rfl)) _ rfl; rw [hRs] at this; exact this
              rw [hRs]
              refine K3.hop_plain rfl ?_
              have kc : ∀ v, fa.eval (.const v) = v := fun _ => rfl
              generalize fa.eval = ρ at *
              exact K3.out_run (v := .pointer (some ⟨g, o + i * 3, none⟩)) (w' := fw) (by simp [execOp, kc, k28, k31, go_sem, hltI, hnn]) ⟨rfl, Below.refl _ _⟩
            refine K3.rel_cons (Φ := K3.Hop _ _ _ _ _ _ _) (k := 8) ?_ ?_
            · intro fa fw hfB hfN hfE hfk hft
              have k32 : fa.eval (.tmp 32) = (.pointer (some ⟨g, o + i * 3, none⟩)) := by have := hfk 7 (K3.mem_needs (by kernel_rfl)) _ rfl; rw [hRs] at this; exact this
              rw [hRs]
              refine K3.hop_plain rfl ?_
              exact out_load3 rfl k32 (HFl.out fw (hd4.trans hfB)) ⟨rfl, Below.refl _ _⟩
            refine K3.rel_cons (Φ := K3.Hop _ _ _ _ _ _ _) (k := 9) ?_ ?_
            · intro fa fw hfB hfN hfE hfk hft
              rw [hRs]
              refine K3.hop_plain rfl ?_
              generalize fa.eval = ρ at *
              exact K3.out_run (v := .pointer (some ⟨fw.heap.size, 0, none⟩)) (w' := fw.alloc (.cells #[.string ⟨#[]⟩, .string ⟨#[]⟩, .int .i64 0] 68)) (by simp [execOp, go_sem]) ⟨⟨fw.heap.size, hfN, rfl, heap_alloc_new _ _⟩, (Below.refl _ _).alloc (Nat.le_refl _) _⟩
            refine K3.rel_cons (Φ := K3.Hop _ _ _ _ _ _ _) (k := 10) ?_ ?_
            · intro fa fw hfB hfN hfE hfk hft
              have k10 : (MadeF w2.heap.size #[.string ⟨#[]⟩, .string ⟨#[]⟩, .int .i64 0]) (fa.eval (.tmp 10)) fw := by have := hfk 9 (K3.mem_needs (by kernel_rfl)) _ rfl; rw [hRs] at this; exact this
              have k33 : fa.eval (.tmp 33) = (.agg (fV y).toArray) := by have := hfk 8 (K3.mem_needs (by kernel_rfl)) _ rfl; rw [hRs] at this; exact this
              rw [hRs]
              refine K3.hop_plain rfl ?_
              obtain ⟨B, hB0, hBv, hBh⟩ := k10.e
              exact out_storeF rfl (show fa.eval (.tmp 10) = _ from hBv) k33 hBh (fV_size y) rfl (fV_all y) ⟨(show MadeF w2.heap.size (fV y).toArray (fa.tmps.getD 10 undef) _ from ⟨B, hB0, hBv, setRow_heap _ _ _ _ _ _ hBh⟩), below_setRow (Below.refl _ _) hB0 _⟩
            exact K3.rel_nil
          · intro fa fw hfB hfy hff hfs hfd
            rw [hRs] at hfy
            have k10 : MadeF w2.heap.size (fV y).toArray (fa.tmps.getD 10 undef) fw := hfy 10 _ rfl (K3.unkilled (by decide))
            have HBf := Lib.hid (show Below w2.heap.size w2 fw from hd4.trans hfB)
            have e := K3.rel_frame [25, 26, 27, 28, 29, 30, 31, 32, 33, 10] (by kernel_rfl) hff hfs hfd
            simp only [List.foldl] at e
            clear hfy hff hfs hfd 
            generalize fa.tmps.getD 25 undef = x25 at e
            generalize fa.tmps.getD 26 undef = x26 at e
            generalize fa.tmps.getD 27 undef = x27 at e
            generalize fa.tmps.getD 28 undef = x28 at e
            generalize fa.tmps.getD 29 undef = x29 at e
            generalize fa.tmps.getD 30 undef = x30 at e
            generalize fa.tmps.getD 31 undef = x31 at e
            generalize fa.tmps.getD 32 undef = x32 at e
            generalize fa.tmps.getD 33 undef = x33 at e
            generalize fa.tmps.getD 10 undef = x10 at e k10
            simp [List.setIfInBounds_toArray, List.set_cons_succ, List.set_cons_zero] at e
            subst e
            obtain ⟨B, hB0, rfl, hBh⟩ := k10.e
            clear k10 hfB
            have c1 : fw.cell? ⟨B, 1, none⟩ = some (.string (mkB y.2.1)) := block_cell hBh 1
            have c2 : fw.cell? ⟨B, 2, none⟩ = some (.int .i64 (y.2.2 : Nat)) := block_cell hBh 2
            have Hr2 : Hid (fw.rangeAt B 0 (fV (y.1, y.2.1, y.2.2))) := Lib.hid (box_range hBh)
            have HB2 : Hid (Below w2.heap.size w2 fw) := HBf
            clear hBh hB0
            go_wp2_with (first | (refine wpList_load_mid rfl 68 (.tmp 10) rfl B 0 rfl [.string y.1, .string (mkB y.2.1), .int .i64 (y.2.2 : Nat)] _ Hr2.out Try.underlying68 rfl fV_info ?_))
            refine (putR_any (D2.out.below HB2.out) hok.n' (y.1, y.2.1, y.2.2)).mono ?_
            rintro e w5 ⟨rfl, d5⟩
            have D5 := Lib.hid (Rd.castA HA1.out d5)
            clear d5
            go_wp2_with fail
            refine (ends_any D5.out hdn2 HN1.out HT1.out HS1.out hok.k false).mono ?_
            rintro e w8 ⟨rfl, d8⟩
            have D8 := Lib.hid d8
            clear d8
            go_wp2_with fail
            go_ret
            exact ⟨rfl, D8.out⟩
      · go_enter Try.func34, Try.ntmps34
        go_wp2_with fail
        refine HM.out.mono ?_
        rintro e w1 ⟨rfl, hB⟩
        have HB1 := Lib.hid hB
        clear hB
        go_wp2_with fail
        refine (HBe.out _ HB1.out).mono ?_
        rintro e w2 ⟨rfl, d2, _⟩
        have D2 := Lib.hid d2
        clear d2
        go_wp2_with fail
        obtain ⟨g, o, c, hrun, hat, hfl⟩ := D2.out.take hok.n' hi HIdx.out
        rw [HY.out] at hfl
        have HRun := Lib.hid hrun
        have HAt := Lib.hid hat
        have HFl := Lib.hid hfl
        have hyS : (mkB y.2.1).size = y.2.1.length := mkB_size _
        have hltI : (i : Int) < (A.length : Nat) := by omega
        have hnn : (0 : Int) ≤ (i : Nat) := by omega
        clear hrun hat hfl
        go_wp2_with fail
        by_cases hml : m < y.2.1.length
        · have g1 : decide ((m : Int) < (y.2.1.length : Nat)) = true := decide_eq_true (by omega)
          have hmm : (m : Int) ≤ (y.2.1.length : Nat) := by omega
          by_cases hms : m < y.2.2
          · have g2 : decide ((m : Int) < (y.2.2 : Nat)) = true := decide_eq_true (by omega)
            have HA1 : Hid (putR A (y.1, y.2.1.take m, m) = cutR A x m) := Lib.hid (by rw [HC.out, Nat.min_eq_left (by omega), Nat.min_eq_right (by omega)])
            have hd4 : Below w2.heap.size w2 w2.drew := (Below.refl _ _).drew
            have hRL : ∃ Rs : List (Value → World → Prop), Rs = [K3.PureV (.pointer (some ⟨b, 0, none⟩)),
                K3.PureV (.pointer (some ⟨b, 0, none⟩)),
                K3.PureV (.pointer (some ⟨b, 0, none⟩)),
                K3.PureV (.slice (some ⟨g, o, none⟩) A.length c),
                K3.PureV (.pointer (some ⟨b, 0, none⟩)),
                K3.PureV (.string x),
                K3.PureV (.int .i64 (i : Nat)),
                K3.PureV (.pointer (some ⟨g, o + i * 3, none⟩)),
                K3.PureV (.agg (fV y).toArray),
                MadeF w2.heap.size #[.string ⟨#[]⟩, .string ⟨#[]⟩, .int .i64 0],
                MadeF w2.heap.size (fV y).toArray] := ⟨_, rfl⟩
            obtain ⟨Rs, hRs⟩ := hRL
            refine K3.wp_region_rel2 w2.heap.size (Nat.le_refl _) (K3.RL Rs) [2, 2, 2, 2, 2, 2, 2, 2, 2, 1, 1] [1, 1, 1, 1, 1, 1, 1, 1, 1, 1, 2] [[], [], [], [], [], [], [], [], [], [], [9]] (by kernel_rfl) (by kernel_rfl) (K3.RL.st1 (by rw [hRs]; exact K3.st1_cons (K3.PureV.st1 _) (K3.st1_cons (K3.PureV.st1 _) (K3.st1_cons (K3.PureV.st1 _) (K3.st1_cons (K3.PureV.st1 _) (K3.st1_cons (K3.PureV.st1 _) (K3.st1_cons (K3.PureV.st1 _) (K3.st1_cons (K3.PureV.st1 _) (K3.st1_cons (K3.PureV.st1 _) (K3.st1_cons (K3.PureV.st1 _) (K3.st1_cons (MadeF.st1 _ _) (K3.st1_cons (MadeF.st1 _ _) (K3.st1_nil))))))))))))) (K3.RL.st2 (by rw [hRs]; exact K3.st2_cons (K3.PureV.st2 _ _ _) (K3.st2_cons (K3.PureV.st2 _ _ _) (K3.st2_cons (K3.PureV.st2 _ _ _) (K3.st2_cons (K3.PureV.st2 _ _ _) (K3.st2_cons (K3.PureV.st2 _ _ _) (K3.st2_cons (K3.PureV.st2 _ _ _) (K3.st2_cons (K3.PureV.st2 _ _ _) (K3.st2_cons (K3.PureV.st2 _ _ _) (K3.st2_cons (K3.PureV.st2 _ _ _) (K3.st2_skip (K3.st2_skip (K3.st2_nil))))))))))))) ?_ ?_ ?_
            · intro i o d hi hd
              have hmem := List.mem_of_getElem? hi
              simp only [List.mem_cons, List.not_mem_nil, or_false] at hmem
              rcases hmem with rfl | rfl | rfl | rfl | rfl | rfl | rfl | rfl | rfl | rfl | rfl <;> simp at hd <;> (subst hd; simp)
            · refine K3.rel_start (Φ := K3.Hop _ _ _ _ _ _ _) ?_
              refine K3.rel_cons (Φ := K3.Hop _ _ _ _ _ _ _) (k := 0) ?_ ?_
              · intro fa fw hfB hfN hfE hfk hft
                have k0 : fa.eval (.tmp 0) = .pointer (some ⟨b, 0, none⟩) := hft 0 (K3.mem_looks (by kernel_rfl)) (K3.noneed (by kernel_rfl))
                rw [hRs]
                refine K3.hop_plain rfl ?_
                refine K3.out_move rfl ?_
                exact ⟨k0, Below.refl _ _⟩
              refine K3.rel_cons (Φ := K3.Hop _ _ _ _ _ _ _) (k := 1) ?_ ?_
              · intro fa fw hfB hfN hfE hfk hft
                have k25 : fa.eval (.tmp 25) = (.pointer (some ⟨b, 0, none⟩)) := by have := hfk 0 (K3.mem_needs (by kernel_rfl)) _ rfl; rw [hRs] at this; exact this
                rw [hRs]
                refine K3.hop_plain rfl ?_
                have kc : ∀ v, fa.eval (.const v) = v := fun _ => rfl
                generalize fa.eval = ρ at *
                exact K3.out_run (v := .pointer (some ⟨b, 0, none⟩)) (w' := fw) (by simp [execOp, kc, k25, go_sem]) ⟨rfl, Below.refl _ _⟩
              refine K3.rel_cons (Φ := K3.Hop _ _ _ _ _ _ _) (k := 2) ?_ ?_
              · intro fa fw hfB hfN hfE hfk hft
                have k26 : fa.eval (.tmp 26) = (.pointer (some ⟨b, 0, none⟩)) := by have := hfk 1 (K3.mem_needs (by kernel_rfl)) _ rfl; rw [hRs] at this; exact this
                rw [hRs]
                refine K3.hop_plain rfl ?_
                have kc : ∀ v, fa.eval (.const v) = v := fun _ => rfl
                generalize fa.eval = ρ at *
                exact K3.out_run (v := .pointer (some ⟨b, 0, none⟩)) (w' := fw) (by simp [execOp, kc, k26, go_sem]) ⟨rfl, Below.refl _ _⟩
              refine K3.rel_cons (Φ := K3.Hop _ _ _ _ _ _ _) (k := 3) ?_ ?_
              · intro fa fw hfB hfN hfE hfk hft
                have k27 : fa.eval (.tmp 27) = (.pointer (some ⟨b, 0, none⟩)) := by have := hfk 2 (K3.mem_needs (by kernel_rfl)) _ rfl; rw [hRs] at this; exact this
                rw [hRs]
                refine K3.hop_plain rfl ?_
                exact out_load3 rfl k27 (HRun.out fw (hd4.trans hfB)) ⟨rfl, Below.refl _ _⟩
              refine K3.rel_cons (Φ := K3.Hop _ _ _ _ _ _ _) (k := 4) ?_ ?_
              · intro fa fw hfB hfN hfE hfk hft
                have k0 : fa.eval (.tmp 0) = .pointer (some ⟨b, 0, none⟩) := hft 0 (K3.mem_looks (by kernel_rfl)) (K3.noneed (by kernel_rfl))
                rw [hRs]
                refine K3.hop_plain rfl ?_
                refine K3.out_move rfl ?_
                exact ⟨k0, Below.refl _ _⟩
              refine K3.rel_cons (Φ := K3.Hop _ _ _ _ _ _ _) (k := 5) ?_ ?_
              · intro fa fw hfB hfN hfE hfk hft
                have k1 : fa.eval (.tmp 1) = .string x := hft 1 (K3.mem_looks (by kernel_rfl)) (K3.noneed (by kernel_rfl))
                rw [hRs]
                refine K3.hop_plain rfl ?_
                refine K3.out_move rfl ?_
                exact ⟨k1, Below.refl _ _⟩
              refine K3.rel_cons (Φ := K3.Hop _ _ _ _ _ _ _) (k := 6) ?_ ?_
              · intro fa fw hfB hfN hfE hfk hft
                have k29 : fa.eval (.tmp 29) = (.pointer (some ⟨b, 0, none⟩)) := by have := hfk 4 (K3.mem_needs (by kernel_rfl)) _ rfl; rw [hRs] at this; exact this
                have k30 : fa.eval (.tmp 30) = (.string x) := by have := hfk 5 (K3.mem_needs (by kernel_rfl)) _ rfl; rw [hRs] at this; exact this
                rw [hRs]
                refine K3.hop_plain rfl ?_
                have kf : fa.eval (.func 43) = .func (.func 43) #[] #[] := rfl
                refine K3.out_call (f := 43) (args := #[fa.eval (.tmp 29), fa.eval (.tmp 30)]) (by generalize fa.eval = ρ at *; simp [execOp, kf, go_sem]) ?_
                rw [k29, k30]
                exact (HAt.out fw (hd4.trans hfB)).mono fun e w' ⟨he, hw⟩ => ⟨_, he, rfl, hw⟩
              refine K3.rel_cons (Φ := K3.Hop _ _ _ _ _ _ _) (k := 7) ?_ ?_
              · intro fa fw hfB hfN hfE hfk hft
                have k28 : fa.eval (.tmp 28) = (.slice (some ⟨g, o, none⟩) A.length c) := by have := hfk 3 (K3.mem_needs (by kernel_rfl)) _ rfl; rw [hRs] at this; exact this
                have k31 : fa.eval (.tmp 31) = (.int .i64 (i : Nat)) := by have := hfk 6 (K3.mem_needs (by kernel_rfl)) _ rfl; rw [hRs] at this; exact this
                rw [hRs]
                refine K3.hop_plain rfl ?_
                have kc : ∀ v, fa.eval (.const v) = v := fun _ => rfl
                generalize fa.eval = ρ at *
                exact K3.out_run (v := .pointer (some ⟨g, o + i * 3, none⟩)) (w' := fw) (by simp [execOp, kc, k28, k31, go_sem, hltI, hnn]) ⟨rfl, Below.refl _ _⟩
              refine K3.rel_cons (Φ := K3.Hop _ _ _ _ _ _ _) (k := 8) ?_ ?_
              · intro fa fw hfB hfN hfE hfk hft
                have k32 : fa.eval (.tmp 32) = (.pointer (some ⟨g, o + i * 3, none⟩)) := by have := hfk 7 (K3.mem_needs (by kernel_rfl)) _ rfl; rw [hRs] at this; exact this
                rw [hRs]
                refine K3.hop_plain rfl ?_
                exact out_load3 rfl k32 (HFl.out fw (hd4.trans hfB)) ⟨rfl, Below.refl _ _⟩
              refine K3.rel_cons (Φ := K3.Hop _ _ _ _ _ _ _) (k := 9) ?_ ?_
              · intro fa fw hfB hfN hfE hfk hft
                rw [hRs]
                refine K3.hop_plain rfl ?_
                generalize fa.eval = ρ at *
                exact K3.out_run (v := .pointer (some ⟨fw.heap.size, 0, none⟩)) (w' := fw.alloc (.cells #[.string ⟨#[]⟩, .string ⟨#[]⟩, .int .i64 0] 68)) (by simp [execOp, go_sem]) ⟨⟨fw.heap.size, hfN, rfl, heap_alloc_new _ _⟩, (Below.refl _ _).alloc (Nat.le_refl _) _⟩
              refine K3.rel_cons (Φ := K3.Hop _ _ _ _ _ _ _) (k := 10) ?_ ?_
              · intro fa fw hfB hfN hfE hfk hft
                have k10 : (MadeF w2.heap.size #[.string ⟨#[]⟩, .string ⟨#[]⟩, .int .i64 0]) (fa.eval (.tmp 10)) fw := by have := hfk 9 (K3.mem_needs (by kernel_rfl)) _ rfl; rw [hRs] at this; exact this
                have k33 : fa.eval (.tmp 33) = (.agg (fV y).toArray) := by have := hfk 8 (K3.mem_needs (by kernel_rfl)) _ rfl; rw [hRs] at this; exact this
                rw [hRs]
                refine K3.hop_plain rfl ?_
                obtain ⟨B, hB0, hBv, hBh⟩ := k10.e
                exact out_storeF rfl (show fa.eval (.tmp 10) = _ from hBv) k33 hBh (fV_size y) rfl (fV_all y) ⟨(show MadeF w2.heap.size (fV y).toArray (fa.tmps.getD 10 undef) _ from ⟨B, hB0, hBv, setRow_heap _ _ _ _ _ _ hBh⟩), below_setRow (Below.refl _ _) hB0 _⟩
              exact K3.rel_nil
            · intro fa fw hfB hfy hff hfs hfd
              rw [hRs] at hfy
              have k10 : MadeF w2.heap.size (fV y).toArray (fa.tmps.getD 10 undef) fw := hfy 10 _ rfl (K3.unkilled (by decide))
              have HBf := Lib.hid (show Below w2.heap.size w2 fw from hd4.trans hfB)
              have e := K3.rel_frame [25, 26, 27, 28, 29, 30, 31, 32, 33, 10] (by kernel_rfl) hff hfs hfd
              simp only [List.foldl] at e
              clear hfy hff hfs hfd 
              generalize fa.tmps.getD 25 undef = x25 at e
              generalize fa.tmps.getD 26 undef = x26 at e
              generalize fa.tmps.getD 27 undef = x27 at e
              generalize fa.tmps.getD 28 undef = x28 at e
              generalize fa.tmps.getD 29 undef = x29 at e
              generalize fa.tmps.getD 30 undef = x30 at e
              generalize fa.tmps.getD 31 undef = x31 at e
              generalize fa.tmps.getD 32 undef = x32 at e
              generalize fa.tmps.getD 33 undef = x33 at e
              generalize fa.tmps.getD 10 undef = x10 at e k10
              simp [List.setIfInBounds_toArray, List.set_cons_succ, List.set_cons_zero] at e
              subst e
              obtain ⟨B, hB0, rfl, hBh⟩ := k10.e
              clear k10 hfB
              have c1 : fw.cell? ⟨B, 1, none⟩ = some (.string (mkB y.2.1)) := block_cell hBh 1
              have c2 : fw.cell? ⟨B, 2, none⟩ = some (.int .i64 (y.2.2 : Nat)) := block_cell hBh 2
              have f1 := block_free hBh 1
              have hB1 := block_set (i := 1) (u := .string (mkB (y.2.1.take m))) hBh
              have c1b : (fw.setCell ⟨B, 1, none⟩ (.string (mkB (y.2.1.take m)))).cell? ⟨B, 1, none⟩ = some (.string (mkB (y.2.1.take m))) := block_cell hB1 1
              have c2b : (fw.setCell ⟨B, 1, none⟩ (.string (mkB (y.2.1.take m)))).cell? ⟨B, 2, none⟩ = some (.int .i64 (y.2.2 : Nat)) := block_cell hB1 2
              have f2 := block_free hB1 2
              have hex : (mkB y.2.1).extract 0 m = mkB (y.2.1.take m) := mkB_take _ _
              have hlS : (mkB (y.2.1.take m)).size = m := by rw [mkB_size, List.length_take]; omega
              have hB2 := block_set (i := 2) (u := .int .i64 (m : Nat)) hB1
              have Hr2 : Hid (((fw.setCell ⟨B, 1, none⟩ (.string (mkB (y.2.1.take m)))).setCell ⟨B, 2, none⟩ (.int .i64 (m : Nat))).rangeAt B 0 (fV (y.1, y.2.1.take m, m))) := Lib.hid (box_range hB2)
              have HB2 : Hid (Below w2.heap.size w2 ((fw.setCell ⟨B, 1, none⟩ (.string (mkB (y.2.1.take m)))).setCell ⟨B, 2, none⟩ (.int .i64 (m : Nat)))) := Lib.hid ((HBf.out.setCell (by show w2.heap.size ≤ B; exact hB0) _).setCell (by show w2.heap.size ≤ B; exact hB0) _)
              clear hBh hB0 hB1 hB2
              go_wp2_with (first | (refine wpList_load_mid rfl 68 (.tmp 10) rfl B 0 rfl [.string y.1, .string (mkB (y.2.1.take m)), .int .i64 (m : Nat)] _ Hr2.out Try.underlying68 rfl fV_info ?_))
              refine (putR_any (D2.out.below HB2.out) hok.n' (y.1, y.2.1.take m, m)).mono ?_
              rintro e w5 ⟨rfl, d5⟩
              have D5 := Lib.hid (Rd.castA HA1.out d5)
              clear d5
              go_wp2_with fail
              refine (ends_any D5.out hdn2 HN1.out HT1.out HS1.out hok.k true).mono ?_
              rintro e w8 ⟨rfl, d8⟩
              have D8 := Lib.hid d8
              clear d8
              go_wp2_with fail
              go_ret
              exact ⟨rfl, D8.out⟩
          · have g2 : decide ((m : Int) < (y.2.2 : Nat)) = false := decide_eq_false (by omega)
            have HA1 : Hid (putR A (y.1, y.2.1.take m, y.2.2) = cutR A x m) := Lib.hid (by rw [HC.out, Nat.min_eq_left (by omega), Nat.min_eq_left (by omega)])
            have hd4 : Below w2.heap.size w2 w2.drew := (Below.refl _ _).drew
            have hRL : ∃ Rs : List (Value → World → Prop), Rs = [K3.PureV (.pointer (some ⟨b, 0, none⟩)),
                K3.PureV (.pointer (some ⟨b, 0, none⟩)),
                K3.PureV (.pointer (some ⟨b, 0, none⟩)),
                K3.PureV (.slice (some ⟨g, o, none⟩) A.length c),
                K3.PureV (.pointer (some ⟨b, 0, none⟩)),
                K3.PureV (.string x),
                K3.PureV (.int .i64 (i : Nat)),
                K3.PureV (.pointer (some ⟨g, o + i * 3, none⟩)),
                K3.PureV (.agg (fV y).toArray),
                MadeF w2.heap.size #[.string ⟨#[]⟩, .string ⟨#[]⟩, .int .i64 0],
                MadeF w2.heap.size (fV y).toArray] := ⟨_, rfl⟩
            obtain ⟨Rs, hRs⟩ := hRL
            refine K3.wp_region_rel2 w2.heap.size (Nat.le_refl _) (K3.RL Rs) [2, 2, 2, 2, 2, 2, 2, 2, 2, 1, 1] [1, 1, 1, 1, 1, 1, 1, 1, 1, 1, 2] [[], [], [], [], [], [], [], [], [], [], [9]] (by kernel_rfl) (by kernel_rfl) (K3.RL.st1 (by rw [hRs]; exact K3.st1_cons (K3.PureV.st1 _) (K3.st1_cons (K3.PureV.st1 _) (K3.st1_cons (K3.PureV.st1 _) (K3.st1_cons (K3.PureV.st1 _) (K3.st1_cons (K3.PureV.st1 _) (K3.st1_cons (K3.PureV.st1 _) (K3.st1_cons (K3.PureV.st1 _) (K3.st1_cons (K3.PureV.st1 _) (K3.st1_cons (K3.PureV.st1 _) (K3.st1_cons (MadeF.st1 _ _) (K3.st1_cons (MadeF.st1 _ _) (K3.st1_nil))))))))))))) (K3.RL.st2 (by rw [hRs]; exact K3.st2_cons (K3.PureV.st2 _ _ _) (K3.st2_cons (K3.PureV.st2 _ _ _) (K3.st2_cons (K3.PureV.st2 _ _ _) (K3.st2_cons (K3.PureV.st2 _ _ _) (K3.st2_cons (K3.PureV.st2 _ _ _) (K3.st2_cons (K3.PureV.st2 _ _ _) (K3.st2_cons (K3.PureV.st2 _ _ _) (K3.st2_cons (K3.PureV.st2 _ _ _) (K3.st2_cons (K3.PureV.st2 _ _ _) (K3.st2_skip (K3.st2_skip (K3.st2_nil))))))))))))) ?_ ?_ ?_
            · intro i o d hi hd
              have hmem := List.mem_of_getElem? hi
              simp only [List.mem_cons, List.not_mem_nil, or_false] at hmem
              rcases hmem with rfl | rfl | rfl | rfl | rfl | rfl | rfl | rfl | rfl | rfl | rfl <;> simp at hd <;> (subst hd; simp)
            · refine K3.rel_start (Φ := K3.Hop _ _ _ _ _ _ _) ?_
              refine K3.rel_cons (Φ := K3.Hop _ _ _ _ _ _ _) (k := 0) ?_ ?_
              · intro fa fw hfB hfN hfE hfk hft
                have k0 : fa.eval (.tmp 0) = .pointer (some ⟨b, 0, none⟩) := hft 0 (K3.mem_looks (by kernel_rfl)) (K3.noneed (by kernel_rfl))
                rw [hRs]
                refine K3.hop_plain rfl ?_
                refine K3.out_move rfl ?_
                exact ⟨k0, Below.refl _ _⟩
              refine K3.rel_cons (Φ := K3.Hop _ _ _ _ _ _ _) (k := 1) ?_ ?_
              · intro fa fw hfB hfN hfE hfk hft
                have k25 : fa.eval (.tmp 25) = (.pointer (some ⟨b, 0, none⟩)) := by have := hfk 0 (K3.mem_needs (by kernel_rfl)) _ rfl; rw [hRs] at this; exact this
                rw [hRs]
                refine K3.hop_plain rfl ?_
                have kc : ∀ v, fa.eval (.const v) = v := fun _ => rfl
                generalize fa.eval = ρ at *
                exact K3.out_run (v := .pointer (some ⟨b, 0, none⟩)) (w' := fw) (by simp [execOp, kc, k25, go_sem]) ⟨rfl, Below.refl _ _⟩
              refine K3.rel_cons (Φ := K3.Hop _ _ _ _ _ _ _) (k := 2) ?_ ?_
              · intro fa fw hfB hfN hfE hfk hft
                have k26 : fa.eval (.tmp 26) = (.pointer (some ⟨b, 0, none⟩)) := by have := hfk 1 (K3.mem_needs (by kernel_rfl)) _ rfl; rw [hRs] at this; exact this
                rw [hRs]
                refine K3.hop_plain rfl ?_
                have kc : ∀ v, fa.eval (.const v) = v := fun _ => rfl
                generalize fa.eval = ρ at *
                exact K3.out_run (v := .pointer (some ⟨b, 0, none⟩)) (w' := fw) (by simp [execOp, kc, k26, go_sem]) ⟨rfl, Below.refl _ _⟩
              refine K3.rel_cons (Φ := K3.Hop _ _ _ _ _ _ _) (k := 3) ?_ ?_
              · intro fa fw hfB hfN hfE hfk hft
                have k27 : fa.eval (.tmp 27) = (.pointer (some ⟨b, 0, none⟩)) := by have := hfk 2 (K3.mem_needs (by kernel_rfl)) _ rfl; rw [hRs] at this; exact this
                rw [hRs]
                refine K3.hop_plain rfl ?_
                exact out_load3 rfl k27 (HRun.out fw (hd4.trans hfB)) ⟨rfl, Below.refl _ _⟩
              refine K3.rel_cons (Φ := K3.Hop _ _ _ _ _ _ _) (k := 4) ?_ ?_
              · intro fa fw hfB hfN hfE hfk hft
                have k0 : fa.eval (.tmp 0) = .pointer (some ⟨b, 0, none⟩) := hft 0 (K3.mem_looks (by kernel_rfl)) (K3.noneed (by kernel_rfl))
                rw [hRs]
                refine K3.hop_plain rfl ?_
                refine K3.out_move rfl ?_
                exact ⟨k0, Below.refl _ _⟩
              refine K3.rel_cons (Φ := K3.Hop _ _ _ _ _ _ _) (k := 5) ?_ ?_
              · intro fa fw hfB hfN hfE hfk hft
                have k1 : fa.eval (.tmp 1) = .string x := hft 1 (K3.mem_looks (by kernel_rfl)) (K3.noneed (by kernel_rfl))
                rw [hRs]
                refine K3.hop_plain rfl ?_
                refine K3.out_move rfl ?_
                exact ⟨k1, Below.refl _ _⟩
              refine K3.rel_cons (Φ := K3.Hop _ _ _ _ _ _ _) (k := 6) ?_ ?_
              · intro fa fw hfB hfN hfE hfk hft
                have k29 : fa.eval (.tmp 29) = (.pointer (some ⟨b, 0, none⟩)) := by have := hfk 4 (K3.mem_needs (by kernel_rfl)) _ rfl; rw [hRs] at this; exact this
                have k30 : fa.eval (.tmp 30) = (.string x) := by have := hfk 5 (K3.mem_needs (by kernel_rfl)) _ rfl; rw [hRs] at this; exact this
                rw [hRs]
                refine K3.hop_plain rfl ?_
                have kf : fa.eval (.func 43) = .func (.func 43) #[] #[] := rfl
                refine K3.out_call (f := 43) (args := #[fa.eval (.tmp 29), fa.eval (.tmp 30)]) (by generalize fa.eval = ρ at *; simp [execOp, kf, go_sem]) ?_
                rw [k29, k30]
                exact (HAt.out fw (hd4.trans hfB)).mono fun e w' ⟨he, hw⟩ => ⟨_, he, rfl, hw⟩
              refine K3.rel_cons (Φ := K3.Hop _ _ _ _ _ _ _) (k := 7) ?_ ?_
              · intro fa fw hfB hfN hfE hfk hft
                have k28 : fa.eval (.tmp 28) = (.slice (some ⟨g, o, none⟩) A.length c) := by have := hfk 3 (K3.mem_needs (by kernel_rfl)) _ rfl; rw [hRs] at this; exact this
                have k31 : fa.eval (.tmp 31) = (.int .i64 (i : Nat)) := by have := hfk 6 (K3.mem_needs (by kernel_rfl)) _ rfl; rw [hRs] at this; exact this
                rw [hRs]
                refine K3.hop_plain rfl ?_
                have kc : ∀ v, fa.eval (.const v) = v := fun _ => rfl
                generalize fa.eval = ρ at *
                exact K3.out_run (v := .pointer (some ⟨g, o + i * 3, none⟩)) (w' := fw) (by simp [execOp, kc, k28, k31, go_sem, hltI, hnn]) ⟨rfl, Below.refl _ _⟩
              refine K3.rel_cons (Φ := K3.Hop _ _ _ _ _ _ _) (k := 8) ?_ ?_
              · intro fa fw hfB hfN hfE hfk hft
                have k32 : fa.eval (.tmp 32) = (.pointer (some ⟨g, o + i * 3, none⟩)) := by have := hfk 7 (K3.mem_needs (by kernel_rfl)) _ rfl; rw [hRs] at this; exact this
                rw [hRs]
                refine K3.hop_plain rfl ?_
                exact out_load3 rfl k32 (HFl.out fw (hd4.trans hfB)) ⟨rfl, Below.refl _ _⟩
              refine K3.rel_cons (Φ := K3.Hop _ _ _ _ _ _ _) (k := 9) ?_ ?_
              · intro fa fw hfB hfN hfE hfk hft
                rw [hRs]
                refine K3.hop_plain rfl ?_
                generalize fa.eval = ρ at *
                exact K3.out_run (v := .pointer (some ⟨fw.heap.size, 0, none⟩)) (w' := fw.alloc (.cells #[.string ⟨#[]⟩, .string ⟨#[]⟩, .int .i64 0] 68)) (by simp [execOp, go_sem]) ⟨⟨fw.heap.size, hfN, rfl, heap_alloc_new _ _⟩, (Below.refl _ _).alloc (Nat.le_refl _) _⟩
              refine K3.rel_cons (Φ := K3.Hop _ _ _ _ _ _ _) (k := 10) ?_ ?_
              · intro fa fw hfB hfN hfE hfk hft
                have k10 : (MadeF w2.heap.size #[.string ⟨#[]⟩, .string ⟨#[]⟩, .int .i64 0]) (fa.eval (.tmp 10)) fw := by have := hfk 9 (K3.mem_needs (by kernel_rfl)) _ rfl; rw [hRs] at this; exact this
                have k33 : fa.eval (.tmp 33) = (.agg (fV y).toArray) := by have := hfk 8 (K3.mem_needs (by kernel_rfl)) _ rfl; rw [hRs] at this; exact this
                rw [hRs]
                refine K3.hop_plain rfl ?_
                obtain ⟨B, hB0, hBv, hBh⟩ := k10.e
                exact out_storeF rfl (show fa.eval (.tmp 10) = _ from hBv) k33 hBh (fV_size y) rfl (fV_all y) ⟨(show MadeF w2.heap.size (fV y).toArray (fa.tmps.getD 10 undef) _ from ⟨B, hB0, hBv, setRow_heap _ _ _ _ _ _ hBh⟩), below_setRow (Below.refl _ _) hB0 _⟩
              exact K3.rel_nil
            · intro fa fw hfB hfy hff hfs hfd
              rw [hRs] at hfy
              have k10 : MadeF w2.heap.size (fV y).toArray (fa.tmps.getD 10 undef) fw := hfy 10 _ rfl (K3.unkilled (by decide))
              have HBf := Lib.hid (show Below w2.heap.size w2 fw from hd4.trans hfB)
              have e := K3.rel_frame [25, 26, 27, 28, 29, 30, 31, 32, 33, 10] (by kernel_rfl) hff hfs hfd
              simp only [List.foldl] at e
              clear hfy hff hfs hfd 
              generalize fa.tmps.getD 25 undef = x25 at e
              generalize fa.tmps.getD 26 undef = x26 at e
              generalize fa.tmps.getD 27 undef = x27 at e
              generalize fa.tmps.getD 28 undef = x28 at e
              generalize fa.tmps.getD 29 undef = x29 at e
              generalize fa.tmps.getD 30 undef = x30 at e
              generalize fa.tmps.getD 31 undef = x31 at e
              generalize fa.tmps.getD 32 undef = x32 at e
              generalize fa.tmps.getD 33 undef = x33 at e
              generalize fa.tmps.getD 10 undef = x10 at e k10
              simp [List.setIfInBounds_toArray, List.set_cons_succ, List.set_cons_zero] at e
              subst e
              obtain ⟨B, hB0, rfl, hBh⟩ := k10.e
              clear k10 hfB
              have c1 : fw.cell? ⟨B, 1, none⟩ = some (.string (mkB y.2.1)) := block_cell hBh 1
              have c2 : fw.cell? ⟨B, 2, none⟩ = some (.int .i64 (y.2.2 : Nat)) := block_cell hBh 2
              have f1 := block_free hBh 1
              have hB1 := block_set (i := 1) (u := .string (mkB (y.2.1.take m))) hBh
              have c1b : (fw.setCell ⟨B, 1, none⟩ (.string (mkB (y.2.1.take m)))).cell? ⟨B, 1, none⟩ = some (.string (mkB (y.2.1.take m))) := block_cell hB1 1
              have c2b : (fw.setCell ⟨B, 1, none⟩ (.string (mkB (y.2.1.take m)))).cell? ⟨B, 2, none⟩ = some (.int .i64 (y.2.2 : Nat)) := block_cell hB1 2
              have f2 := block_free hB1 2
              have hex : (mkB y.2.1).extract 0 m = mkB (y.2.1.take m) := mkB_take _ _
              have hlS : (mkB (y.2.1.take m)).size = m := by rw [mkB_size, List.length_take]; omega
              have Hr2 : Hid ((fw.setCell ⟨B, 1, none⟩ (.string (mkB (y.2.1.take m)))).rangeAt B 0 (fV (y.1, y.2.1.take m, y.2.2))) := Lib.hid (box_range hB1)
              have HB2 : Hid (Below w2.heap.size w2 (fw.setCell ⟨B, 1, none⟩ (.string (mkB (y.2.1.take m))))) := Lib.hid (HBf.out.setCell (by show w2.heap.size ≤ B; exact hB0) _)
              clear hBh hB0 hB1
              go_wp2_with (first | (refine wpList_load_mid rfl 68 (.tmp 10) rfl B 0 rfl [.string y.1, .string (mkB (y.2.1.take m)), .int .i64 (y.2.2 : Nat)] _ Hr2.out Try.underlying68 rfl fV_info ?_))
              refine (putR_any (D2.out.below HB2.out) hok.n' (y.1, y.2.1.take m, y.2.2)).mono ?_
              rintro e w5 ⟨rfl, d5⟩
              have D5 := Lib.hid (Rd.castA HA1.out d5)
              clear d5
              go_wp2_with fail
              refine (ends_any D5.out hdn2 HN1.out HT1.out HS1.out hok.k true).mono ?_
              rintro e w8 ⟨rfl, d8⟩
              have D8 := Lib.hid d8
              clear d8
              go_wp2_with fail
              go_ret
              exact ⟨rfl, D8.out⟩
        · have g1 : decide ((m : Int) < (y.2.1.length : Nat)) = false := decide_eq_false (by omega)
          have g2 : decide ((y.2.1.length : Int) < (y.2.2 : Nat)) = false := decide_eq_false (by omega)
          have HA1 : Hid (putR A (y.1, y.2.1, y.2.2) = cutR A x m) := Lib.hid (by rw [HC.out, Nat.min_eq_right (by omega), Nat.min_eq_left (by omega), List.take_length])
          have hd4 : Below w2.heap.size w2 w2.drew := (Below.refl _ _).drew
          have hRL : ∃ Rs : List (Value → World → Prop), Rs = [K3.PureV (.pointer (some ⟨b, 0, none⟩)),
              K3.PureV (.pointer (some ⟨b, 0, none⟩)),
              K3.PureV (.pointer (some ⟨b, 0, none⟩)),
              K3.PureV (.slice (some ⟨g, o, none⟩) A.length c),
              K3.PureV (.pointer (some ⟨b, 0, none⟩)),
              K3.PureV (.string x),
              K3.PureV (.int .i64 (i : Nat)),
              K3.PureV (.pointer (some ⟨g, o + i * 3, none⟩)),
              K3.PureV (.agg (fV y).toArray),
              MadeF w2.heap.size #[.string ⟨#[]⟩, .string ⟨#[]⟩, .int .i64 0],
              MadeF w2.heap.size (fV y).toArray] := ⟨_, rfl⟩
          obtain ⟨Rs, hRs⟩ := hRL
          refine K3.wp_region_rel2 w2.heap.size (Nat.le_refl _) (K3.RL Rs) [2, 2, 2, 2, 2, 2, 2, 2, 2, 1, 1] [1, 1, 1, 1, 1, 1, 1, 1, 1, 1, 2] [[], [], [], [], [], [], [], [], [], [], [9]] (by kernel_rfl) (by kernel_rfl) (K3.RL.st1 (by rw [hRs]; exact K3.st1_cons (K3.PureV.st1 _) (K3.st1_cons (K3.PureV.st1 _) (K3.st1_cons (K3.PureV.st1 _) (K3.st1_cons (K3.PureV.st1 _) (K3.st1_cons (K3.PureV.st1 _) (K3.st1_cons (K3.PureV.st1 _) (K3.st1_cons (K3.PureV.st1 _) (K3.st1_cons (K3.PureV.st1 _) (K3.st1_cons (K3.PureV.st1 _) (K3.st1_cons (MadeF.st1 _ _) (K3.st1_cons (MadeF.st1 _ _) (K3.st1_nil))))))))))))) (K3.RL.st2 (by rw [hRs]; exact K3.st2_cons (K3.PureV.st2 _ _ _) (K3.st2_cons (K3.PureV.st2 _ _ _) (K3.st2_cons (K3.PureV.st2 _ _ _) (K3.st2_cons (K3.PureV.st2 _ _ _) (K3.st2_cons (K3.PureV.st2 _ _ _) (K3.st2_cons (K3.PureV.st2 _ _ _) (K3.st2_cons (K3.PureV.st2 _ _ _) (K3.st2_cons (K3.PureV.st2 _ _ _) (K3.st2_cons (K3.PureV.st2 _ _ _) (K3.st2_skip (K3.st2_skip (K3.st2_nil))))))))))))) ?_ ?_ ?_
          · intro i o d hi hd
            have hmem := List.mem_of_getElem? hi
            simp only [List.mem_cons, List.not_mem_nil, or_false] at hmem
            rcases hmem with rfl | rfl | rfl | rfl | rfl | rfl | rfl | rfl | rfl | rfl | rfl <;> simp at hd <;> (subst hd; simp)
          · refine K3.rel_start (Φ := K3.Hop _ _ _ _ _ _ _) ?_
            refine K3.rel_cons (Φ := K3.Hop _ _ _ _ _ _ _) (k := 0) ?_ ?_
            · intro fa fw hfB hfN hfE hfk hft
              have k0 : fa.eval (.tmp 0) = .pointer (some ⟨b, 0, none⟩) := hft 0 (K3.mem_looks (by kernel_rfl)) (K3.noneed (by kernel_rfl))
              rw [hRs]
              refine K3.hop_plain rfl ?_
              refine K3.out_move rfl ?_
              exact ⟨k0, Below.refl _ _⟩
            refine K3.rel_cons (Φ := K3.Hop _ _ _ _ _ _ _) (k := 1) ?_ ?_
            · intro fa fw hfB hfN hfE hfk hft
              have k25 : fa.eval (.tmp 25) = (.pointer (some ⟨b, 0, none⟩)) := by have := hfk 0 (K3.mem_needs (by kernel_rfl)) _ rfl; rw [hRs] at this; exact this
              rw [hRs]
              refine K3.hop_plain rfl ?_
              have kc : ∀ v, fa.eval (.const v) = v := fun _ => rfl
              generalize fa.eval = ρ at *
              exact K3.out_run (v := .pointer (some ⟨b, 0, none⟩)) (w' := fw) (by simp [execOp, kc, k25, go_sem]) ⟨rfl, Below.refl _ _⟩
            refine K3.rel_cons (Φ := K3.Hop _ _ _ _ _ _ _) (k := 2) ?_ ?_
            · intro fa fw hfB hfN hfE hfk hft
              have k26 : fa.eval (.tmp 26) = (.pointer (some ⟨b, 0, none⟩)) := by have := hfk 1 (K3.mem_needs (by kernel_rfl)) _ rfl; rw [hRs] at this; exact this
              rw [hRs]
              refine K3.hop_plain rfl ?_
              have kc : ∀ v, fa.eval (.const v) = v := fun _ => rfl
              generalize fa.eval = ρ at *
              exact K3.out_run (v := .pointer (some ⟨b, 0, none⟩)) (w' := fw) (by simp [execOp, kc, k26, go_sem]) ⟨rfl, Below.refl _ _⟩
            refine K3.rel_cons (Φ := K3.Hop _ _ _ _ _ _ _) (k := 3) ?_ ?_
            · intro fa fw hfB hfN hfE hfk hft
              have k27 : fa.eval (.tmp 27) = (.pointer (some ⟨b, 0, none⟩)) := by have := hfk 2 (K3.mem_needs (by kernel_rfl)) _ rfl; rw [hRs] at this; exact this
              rw [hRs]
              refine K3.hop_plain rfl ?_
              exact out_load3 rfl k27 (HRun.out fw (hd4.trans hfB)) ⟨rfl, Below.refl _ _⟩
            refine K3.rel_cons (Φ := K3.Hop _ _ _ _ _ _ _) (k := 4) ?_ ?_
            · intro fa fw hfB hfN hfE hfk hft
              have k0 : fa.eval (.tmp 0) = .pointer (some ⟨b, 0, none⟩) := hft 0 (K3.mem_looks (by kernel_rfl)) (K3.noneed (by kernel_rfl))
              rw [hRs]
              refine K3.hop_plain rfl ?_
              refine K3.out_move rfl ?_
              exact ⟨k0, Below.refl _ _⟩
            refine K3.rel_cons (Φ := K3.Hop _ _ _ _ _ _ _) (k := 5) ?_ ?_
            · intro fa fw hfB hfN hfE hfk hft
              have k1 : fa.eval (.tmp 1) = .string x := hft 1 (K3.mem_looks (by kernel_rfl)) (K3.noneed (by kernel_rfl))
              rw [hRs]
              refine K3.hop_plain rfl ?_
              refine K3.out_move rfl ?_
              exact ⟨k1, Below.refl _ _⟩
            refine K3.rel_cons (Φ := K3.Hop _ _ _ _ _ _ _) (k := 6) ?_ ?_
            · intro fa fw hfB hfN hfE hfk hft
              have k29 : fa.eval (.tmp 29) = (.pointer (some ⟨b, 0, none⟩)) := by have := hfk 4 (K3.mem_needs (by kernel_rfl)) _ rfl; rw [hRs] at this; exact this
              have k30 : fa.eval (.tmp 30) = (.string x) := by have := hfk 5 (K3.mem_needs (by kernel_rfl)) _ rfl; rw [hRs] at this; exact this
              rw [hRs]
              refine K3.hop_plain rfl ?_
              have kf : fa.eval (.func 43) = .func (.func 43) #[] #[] := rfl
              refine K3.out_call (f := 43) (args := #[fa.eval (.tmp 29), fa.eval (.tmp 30)]) (by generalize fa.eval = ρ at *; simp [execOp, kf, go_sem]) ?_
              rw [k29, k30]
              exact (HAt.out fw (hd4.trans hfB)).mono fun e w' ⟨he, hw⟩ => ⟨_, he, rfl, hw⟩
            refine K3.rel_cons (Φ := K3.Hop _ _ _ _ _ _ _) (k := 7) ?_ ?_
            · intro fa fw hfB hfN hfE hfk hft
              have k28 : fa.eval (.tmp 28) = (.slice (some ⟨g, o, none⟩) A.length c) := by have := hfk 3 (K3.mem_needs (by kernel_rfl)) _ rfl; rw [hRs] at this; exact this
              have k31 : fa.eval (.tmp 31) = (.int .i64 (i : Nat)) := by have := hfk 6 (K3.mem_needs (by kernel_rfl)) _ rfl; rw [hRs] at this; exact this
              rw [hRs]
              refine K3.hop_plain rfl ?_
              have kc : ∀ v, fa.eval (.const v) = v := fun _ => rfl
              generalize fa.eval = ρ at *
              exact K3.out_run (v := .pointer (some ⟨g, o + i * 3, none⟩)) (w' := fw) (by simp [execOp, kc, k28, k31, go_sem, hltI, hnn]) ⟨rfl, Below.refl _ _⟩
            refine K3.rel_cons (Φ := K3.Hop _ _ _ _ _ _ _) (k := 8) ?_ ?_
            · intro fa fw hfB hfN hfE hfk hft
              have k32 : fa.eval (.tmp 32) = (.pointer (some ⟨g, o + i * 3, none⟩)) := by have := hfk 7 (K3.mem_needs (by kernel_rfl)) _ rfl; rw [hRs] at this; exact this
              rw [hRs]
              refine K3.hop_plain rfl ?_
              exact out_load3 rfl k32 (HFl.out fw (hd4.trans hfB)) ⟨rfl, Below.refl _ _⟩
            refine K3.rel_cons (Φ := K3.Hop _ _ _ _ _ _ _) (k := 9) ?_ ?_
            · intro fa fw hfB hfN hfE hfk hft
              rw [hRs]
              refine K3.hop_plain rfl ?_
              generalize fa.eval = ρ at *
              exact K3.out_run (v := .pointer (some ⟨fw.heap.size, 0, none⟩)) (w' := fw.alloc (.cells #[.string ⟨#[]⟩, .string ⟨#[]⟩, .int .i64 0] 68)) (by simp [execOp, go_sem]) ⟨⟨fw.heap.size, hfN, rfl, heap_alloc_new _ _⟩, (Below.refl _ _).alloc (Nat.le_refl _) _⟩
            refine K3.rel_cons (Φ := K3.Hop _ _ _ _ _ _ _) (k := 10) ?_ ?_
            · intro fa fw hfB hfN hfE hfk hft
              have k10 : (MadeF w2.heap.size #[.string ⟨#[]⟩, .string ⟨#[]⟩, .int .i64 0]) (fa.eval (.tmp 10)) fw := by have := hfk 9 (K3.mem_needs (by kernel_rfl)) _ rfl; rw [hRs] at this; exact this
              have k33 : fa.eval (.tmp 33) = (.agg (fV y).toArray) := by have := hfk 8 (K3.mem_needs (by kernel_rfl)) _ rfl; rw [hRs] at this; exact this
              rw [hRs]
              refine K3.hop_plain rfl ?_
              obtain ⟨B, hB0, hBv, hBh⟩ := k10.e
              exact out_storeF rfl (show fa.eval (.tmp 10) = _ from hBv) k33 hBh (fV_size y) rfl (fV_all y) ⟨(show MadeF w2.heap.size (fV y).toArray (fa.tmps.getD 10 undef) _ from ⟨B, hB0, hBv, setRow_heap _ _ _ _ _ _ hBh⟩), below_setRow (Below.refl _ _) hB0 _⟩
            exact K3.rel_nil
          · intro fa fw hfB hfy hff hfs hfd
            rw [hRs] at hfy
            have k10 : MadeF w2.heap.size (fV y).toArray (fa.tmps.getD 10 undef) fw := hfy 10 _ rfl (K3.unkilled (by decide))
            have HBf := Lib.hid (show Below w2.heap.size w2 fw from hd4.trans hfB)
            have e := K3.rel_frame [25, 26, 27, 28, 29, 30, 31, 32, 33, 10] (by kernel_rfl) hff hfs hfd
            simp only [List.foldl] at e
            clear hfy hff hfs hfd 
            generalize fa.tmps.getD 25 undef = x25 at e
            generalize fa.tmps.getD 26 undef = x26 at e
            generalize fa.tmps.getD 27 undef = x27 at e
            generalize fa.tmps.getD 28 undef = x28 at e
            generalize fa.tmps.getD 29 undef = x29 at e
            generalize fa.tmps.getD 30 undef = x30 at e
            generalize fa.tmps.getD 31 undef = x31 at e
            generalize fa.tmps.getD 32 undef = x32 at e
            generalize fa.tmps.getD 33 undef = x33 at e
            generalize fa.tmps.getD 10 undef = x10 at e k10
            simp [List.setIfInBounds_toArray, List.set_cons_succ, List.set_cons_zero] at e
            subst e
            obtain ⟨B, hB0, rfl, hBh⟩ := k10.e
            clear k10 hfB
            have c1 : fw.cell? ⟨B, 1, none⟩ = some (.string (mkB y.2.1)) := block_cell hBh 1
            have c2 : fw.cell? ⟨B, 2, none⟩ = some (.int .i64 (y.2.2 : Nat)) := block_cell hBh 2
            have Hr2 : Hid (fw.rangeAt B 0 (fV (y.1, y.2.1, y.2.2))) := Lib.hid (box_range hBh)
            have HB2 : Hid (Below w2.heap.size w2 fw) := HBf
            clear hBh hB0
            go_wp2_with (first | (refine wpList_load_mid rfl 68 (.tmp 10) rfl B 0 rfl [.string y.1, .string (mkB y.2.1), .int .i64 (y.2.2 : Nat)] _ Hr2.out Try.underlying68 rfl fV_info ?_))
            refine (putR_any (D2.out.below HB2.out) hok.n' (y.1, y.2.1, y.2.2)).mono ?_
            rintro e w5 ⟨rfl, d5⟩
            have D5 := Lib.hid (Rd.castA HA1.out d5)
            clear d5
            go_wp2_with fail
            refine (ends_any D5.out hdn2 HN1.out HT1.out HS1.out hok.k true).mono ?_
            rintro e w8 ⟨rfl, d8⟩
            have D8 := Lib.hid d8
            clear d8
            go_wp2_with fail
            go_ret
            exact ⟨rfl, D8.out⟩
  · have hp : True := by simp [hf]
    rw [if_pos hf, stepR_pre hf]
    generalize findA h A x = r at *
    have hrb : (r != 0) = true := by simpa using hf
    clear hf d
    go_enter Try.func34, Try.ntmps34
    go_wp2_with fail
    refine HM.out.mono ?_
    rintro e w1 ⟨rfl, hB⟩
    have D1 := Lib.hid (D.out.below hB)
    clear hB
    go_wp2_with fail
    go_ret
    exact ⟨rfl, D1.out⟩
end Go.Proofs.Ytfmcemedaehcoaa
