/- The document's device: Sync, Remove. -/
import Derived.Test.YtfmcemedaehcoaaXg
namespace Go.Proofs.Ytfmcemedaehcoaa
set_option linter.unusedVariables false
set_option linter.unusedSimpArgs false
open Go.ChangeShapes Go.WideShapes Go.ChangeAt Go.RowKit Go.ChangeMaps

structure MadeF (N0 : Nat) (R : Array Value) (v : Value) (w : World) : Prop where
  e : ∃ B, N0 ≤ B ∧ v = .pointer (some ⟨B, 0, none⟩) ∧ w.heap[B]? = some (.cells R 68 (0, 0))
theorem MadeF.st1 (N0 : Nat) (R : Array Value) : K3.St1 (MadeF N0 R) := fun v w1 w2 ⟨B, h0, h1, h2⟩ hB => ⟨B, h0, h1, (hB.block _ (Array.getElem?_eq_some_iff.1 h2).1).trans h2⟩
theorem out_storeF {o : Oper} {ρ : Operand → Value} {w : World} {φ : Value → World → Prop} {x y : Operand} {B : Nat} {R old : Array Value} (ho : o.op = .store 68 x y) (hx : ρ x = .pointer (some ⟨B, 0, none⟩)) (hy : ρ y = .agg R)
    (hg : w.heap[B]? = some (.cells old 68 (0, 0))) (hi : (Try.prog.info? 68).map (·.size) = some R.size) (hold : old.size = R.size) (h1 : R.all (·.oneCell') = true) (hφ : φ undef (w.setRow B R)) : K3.Out Try.prog o ρ w φ := by
  have hw := run_storeVar_row (P := Try.prog) w B 68 68 old R hg hi hold h1
  unfold K3.Out execOp
  simp only [ho, hx, hy, Instr.storeAt, Instr.sureAddr, Sem.run_bind, Sem.run_pure, Result.andThen_ok, hw]
  exact hφ
/-- What is needed to take the i-th file out of a device's row. -/
theorem Rd.take {S : Nat → Prop} {w0 : World} {b : Nat} {h : Hd} {A : List Ab} {w : World} (d : Rd S w0 b h A w) (hn : A.length ≤ 1048576) {x : ByteArray} {i : Nat} (hi : i < A.length) (hx : idxA A x = (i : Nat)) :
    ∃ g o c, (∀ w1, Below w.heap.size w w1 → (loadVar 34 ⟨b, 0, none⟩).run Try.prog w1 = .ok (.slice (some ⟨g, o, none⟩) A.length c) w1) ∧
      (∀ w1, Below w.heap.size w w1 → Calls Try.prog 43 #[.pointer (some ⟨b, 0, none⟩), .string x] w1 fun e w' => e = .returned (.int .i64 (i : Nat)) ∧ Below w1.heap.size w1 w') ∧
      (∀ w1, Below w.heap.size w w1 → (loadVar 68 ⟨g, o + i * 3, none⟩).run Try.prog w1 = .ok (.agg (fV A[i]).toArray) w1) := by
  obtain ⟨v, hl, hb, hrun⟩ := d.filesC
  obtain ⟨g, o, c, rfl, hg, hc, hrg, hob⟩ := hl.file hi
  refine ⟨g, o, c, hrun, fun w1 h1 => ?_, fun w1 h1 => ?_⟩
  · have h := at_any ((h1.block b (lt_of_block hb)).trans hb) (hl.below h1) hn x
    rw [hx] at h
    exact h
  · exact run_loadVar_mid (P := Try.prog) w1 g (o + i * 3) 68 (fV A[i]) _ (range_below hrg h1 hg) Try.underlying68 rfl (by rw [fV_len]; kernel_rfl)
/-- An act of the document's: what is answered, and what is then. -/
def stepR (h : Hd) (A A1 : List Ab) (pre stays : Int) : Int × Hd × List Ab :=
  if pre ≠ 0 then (pre, h, A)
  else if h.left ≠ 1 then (0, actH h, A1)
  else (7, offR (actH h), (if doesB stays h.keep = true then A1 else A).map (loseA h.keep h.torn))
theorem stepR_pre {h : Hd} {A A1 : List Ab} {pre stays : Int} (hp : pre ≠ 0) : stepR h A A1 pre stays = (pre, h, A) := by
  unfold stepR
  rw [if_pos hp]
theorem stepR_ok {h : Hd} {A A1 : List Ab} {pre stays : Int} (hp : pre = 0) (hl : h.left ≠ 1) : stepR h A A1 pre stays = (0, actH h, A1) := by
  unfold stepR
  rw [if_neg (by simp [hp]), if_pos hl]
theorem stepR_off {h : Hd} {A A1 : List Ab} {pre stays : Int} (hp : pre = 0) (hl : h.left = 1) : stepR h A A1 pre stays = (7, offR (actH h), (if doesB stays h.keep = true then A1 else A).map (loseA h.keep h.torn)) := by
  unfold stepR
  rw [if_neg (by simp [hp]), if_neg (by simp [hl])]
theorem findA_ok {h : Hd} {A : List Ab} {x : ByteArray} (hf : findA h A x = 0) : h.down = false ∧ goodN x = true ∧ ∃ (i : Nat) (hi : i < A.length), idxA A x = (i : Nat) ∧ lookA A x = some A[i] ∧ A[i].1 = x := by
  unfold findA at hf
  split at hf
  · rename_i h1; exact absurd hf h1
  · rename_i h1
    have hr : readyE h x = 0 := by simpa using h1
    split at hf
    · rename_i h2
      obtain ⟨h3, h4⟩ := readyE_ok hr
      rcases @idx_look A x with ⟨_, h5⟩ | h5
      · rw [h5] at h2; cases h2
      · exact ⟨h3, h4, h5⟩
    · cases hf
theorem doneR_eq (h : Hd) : doneR h = (if h.left ≠ 1 then true else doesB 1 h.keep) := by
  unfold doneR doesB
  by_cases h1 : h.left = 1 <;> simp [h1]
theorem ROk.n' {h : Hd} {A : List Ab} (k : ROk h A) : A.length ≤ 1048576 := by have := k.n; omega
set_option maxRecDepth 100000 in
set_option maxHeartbeats 2000000 in
theorem syncR_any {S : Nat → Prop} {w0 : World} {b : Nat} {h : Hd} {A : List Ab} {w : World} (d : Rd S w0 b h A w) (hok : ROk h A) (x : ByteArray) :
    Calls Try.prog 33 #[.pointer (some ⟨b, 0, none⟩), .string x] w fun e w' => e = .returned (.int .i64 (stepR h A (synR A x) (findA h A x) 2).1) ∧ Rd S w0 b (stepR h A (synR A x) (findA h A x) 2).2.1 (stepR h A (synR A x) (findA h A x) 2).2.2 w' := by
  have HM := Lib.hid (may_there d hok.n' x)
  have D := Lib.hid d
  by_cases hf : findA h A x = 0
  · obtain ⟨hdn, hgx, i, hi, hidx, hlk, hyx⟩ := findA_ok hf
    rw [hf] at HM
    have HAc := Lib.hid (fun w1 (hB : Below w.heap.size w w1) => actR_any (d.below hB) hok.hd.left hok.hd.acts)
    by_cases hl : h.left = 1
    · rw [stepR_off hf hl]
      rw [decide_eq_true hl] at HAc
      simp only [show doesB 2 h.keep = false from rfl, Bool.false_eq_true, if_false]
      clear hl hf d
      go_enter Try.func33, Try.ntmps33
      go_wp2_with fail
      refine HM.out.mono ?_
      rintro e w1 ⟨rfl, hB⟩
      have HB1 := Lib.hid hB
      clear hB
      go_wp2_with fail
      refine (HAc.out _ HB1.out).mono ?_
      rintro e w2 ⟨rfl, d2, _⟩
      have D2 := Lib.hid d2
      have C5 := Lib.hid d2.keepC.1
      have C6 := Lib.hid d2.keepC.2
      clear d2
      go_wp2_with fail
      refine wp_region_class_tail (Below w2.heap.size w2) 9 (by kernel_rfl) (by kernel_rfl) (Below.refl _ _).drew ?_
      simp only [List.take_succ_cons, List.take_zero, List.drop_succ_cons, List.drop_zero]
      repeat (go_big_quiet_step (first | (intro _; rfl)))
      refine wpQuiet_load_at rfl 3 (.tmp 18) rfl ⟨b, 5, none⟩ rfl _ C5.out ?_
      simp only [Act.put, List.setIfInBounds_toArray, List.set_cons_succ, List.set_cons_zero]
      repeat (go_big_quiet_step (first | (intro _; rfl)))
      refine wpQuiet_load_at rfl 4 (.tmp 22) rfl ⟨b, 6, none⟩ rfl _ C6.out ?_
      simp only [Act.put, List.setIfInBounds_toArray, List.set_cons_succ, List.set_cons_zero]
      repeat (go_big_quiet_step (first | (intro _; rfl)))
      refine wpQuiet_nil ?_
      intro wz hz
      have Dz := Lib.hid (D2.out.below hz)
      clear hz
      go_wp2_with fail
      refine (loseR_any Dz.out hdn hok.n' hok.t hok.s h.keep h.torn hok.k).mono ?_
      rintro e w9 ⟨rfl, d9⟩
      have D9 := Lib.hid d9
      clear d9
      go_wp2_with fail
      go_ret
      exact ⟨rfl, D9.out⟩
    · rw [stepR_ok hf hl]
      rw [decide_eq_false hl] at HAc
      obtain ⟨y, hy⟩ : ∃ y, A[i] = y := ⟨_, rfl⟩
      have HA1 : Hid (putR A (y.1, y.2.1, y.2.1.length) = synR A x) := Lib.hid (by unfold synR; rw [hlk, ← hyx]; simp only [hy])
      have HY := Lib.hid hy
      have HIdx := Lib.hid hidx
      clear hl hf d hlk hyx hy hidx
      go_enter Try.func33, Try.ntmps33
      go_wp2_with fail
      refine HM.out.mono ?_
      rintro e w1 ⟨rfl, hB⟩
      have HB1 := Lib.hid hB
      clear hB
      go_wp2_with fail
      refine (HAc.out _ HB1.out).mono ?_
      rintro e w2 ⟨rfl, d2, _⟩
      have D2 := Lib.hid d2
      obtain ⟨g, o, c, hrun, hat, hfl⟩ := d2.take hok.n' hi HIdx.out
      rw [HY.out] at hfl
      have HRun := Lib.hid hrun
      have HAt := Lib.hid hat
      have HFl := Lib.hid hfl
      have hyS : (mkB y.2.1).size = y.2.1.length := mkB_size _
      have hltI : (i : Int) < (A.length : Nat) := by omega
      have hnn : (0 : Int) ≤ (i : Nat) := by omega
      clear d2 hrun hat hfl
      go_wp2_with fail
      have hd4 : Below w2.heap.size w2 w2.drew := (Below.refl _ _).drew
      have hRL : ∃ Rs : List (Value → World → Prop), Rs = [K3.PureV (.pointer (some ⟨b, 0, none⟩)),
          K3.PureV (.pointer (some ⟨b, 0, none⟩)),
          K3.PureV (.pointer (some ⟨b, 0, none⟩)),
          K3.PureV (.slice (some ⟨g, o, none⟩) A.length c),
          K3.PureV (.pointer (some ⟨b, 0, none⟩)),
          K3.PureV (.string x),
          K3.PureV (.int .i64 (i : Nat)),
          K3.PureV (.pointer (some ⟨g, o + i * 3, none⟩)),
          K3.PureV (.agg (fV y).toArray),
          MadeF w2.heap.size #[.string ⟨#[]⟩, .string ⟨#[]⟩, .int .i64 0],
          MadeF w2.heap.size (fV y).toArray] := ⟨_, rfl⟩
      obtain ⟨Rs, hRs⟩ := hRL
      refine K3.wp_region_rel2 w2.heap.size (Nat.le_refl _) (K3.RL Rs) [2, 2, 2, 2, 2, 2, 2, 2, 2, 1, 1] [1, 1, 1, 1, 1, 1, 1, 1, 1, 1, 2] [[], [], [], [], [], [], [], [], [], [], [9]] (by kernel_rfl) (by kernel_rfl) (K3.RL.st1 (by rw [hRs]; exact K3.st1_cons (K3.PureV.st1 _) (K3.st1_cons (K3.PureV.st1 _) (K3.st1_cons (K3.PureV.st1 _) (K3.st1_cons (K3.PureV.st1 _) (K3.st1_cons (K3.PureV.st1 _) (K3.st1_cons (K3.PureV.st1 _) (K3.st1_cons (K3.PureV.st1 _) (K3.st1_cons (K3.PureV.st1 _) (K3.st1_cons (K3.PureV.st1 _) (K3.st1_cons (MadeF.st1 _ _) (K3.st1_cons (MadeF.st1 _ _) (K3.st1_nil))))))))))))) (K3.RL.st2 (by rw [hRs]; exact K3.st2_cons (K3.PureV.st2 _ _ _) (K3.st2_cons (K3.PureV.st2 _ _ _) (K3.st2_cons (K3.PureV.st2 _ _ _) (K3.st2_cons (K3.PureV.st2 _ _ _) (K3.st2_cons (K3.PureV.st2 _ _ _) (K3.st2_cons (K3.PureV.st2 _ _ _) (K3.st2_cons (K3.PureV.st2 _ _ _) (K3.st2_cons (K3.PureV.st2 _ _ _) (K3.st2_cons (K3.PureV.st2 _ _ _) (K3.st2_skip (K3.st2_skip (K3.st2_nil))))))))))))) ?_ ?_ ?_
      · intro i o d hi hd
        have hmem := List.mem_of_getElem? hi
        simp only [List.mem_cons, List.not_mem_nil, or_false] at hmem
        rcases hmem with rfl | rfl | rfl | rfl | rfl | rfl | rfl | rfl | rfl | rfl | rfl <;> simp at hd <;> (subst hd; simp)
      · refine K3.rel_start (Φ := K3.Hop _ _ _ _ _ _ _) ?_
        refine K3.rel_cons (Φ := K3.Hop _ _ _ _ _ _ _) (k := 0) ?_ ?_
        · intro fa fw hfB hfN hfE hfk hft
          have k0 : fa.eval (.tmp 0) = .pointer (some ⟨b, 0, none⟩) := hft 0 (K3.mem_looks (by kernel_rfl)) (K3.noneed (by kernel_rfl))
          rw [hRs]
          refine K3.hop_plain rfl ?_
          refine K3.out_move rfl ?_
          exact ⟨k0, Below.refl _ _⟩
        refine K3.rel_cons (Φ := K3.Hop _ _ _ _ _ _ _) (k := 1) ?_ ?_
        · intro fa fw hfB hfN hfE hfk hft
          have k25 : fa.eval (.tmp 25) = (.pointer (some ⟨b, 0, none⟩)) := by have := hfk 0 (K3.mem_needs (by kernel_rfl)) _ rfl; rw [hRs] at this; exact this
          rw [hRs]
          refine K3.hop_plain rfl ?_
          have kc : ∀ v, fa.eval (.const v) = v := fun _ => rfl
          generalize fa.eval = ρ at *
          exact K3.out_run (v := .pointer (some ⟨b, 0, none⟩)) (w' := fw) (by simp [execOp, kc, k25, go_sem]) ⟨rfl, Below.refl _ _⟩
        refine K3.rel_cons (Φ := K3.Hop _ _ _ _ _ _ _) (k := 2) ?_ ?_
        · intro fa fw hfB hfN hfE hfk hft
          have k26 : fa.eval (.tmp 26) = (.pointer (some ⟨b, 0, none⟩)) := by have := hfk 1 (K3.mem_needs (by kernel_rfl)) _ rfl; rw [hRs] at this; exact this
          rw [hRs]
          refine K3.hop_plain rfl ?_
          have kc : ∀ v, fa.eval (.const v) = v := fun _ => rfl
          generalize fa.eval = ρ at *
          exact K3.out_run (v := .pointer (some ⟨b, 0, none⟩)) (w' := fw) (by simp [execOp, kc, k26, go_sem]) ⟨rfl, Below.refl _ _⟩
        refine K3.rel_cons (Φ := K3.Hop _ _ _ _ _ _ _) (k := 3) ?_ ?_
        · intro fa fw hfB hfN hfE hfk hft
          have k27 : fa.eval (.tmp 27) = (.pointer (some ⟨b, 0, none⟩)) := by have := hfk 2 (K3.mem_needs (by kernel_rfl)) _ rfl; rw [hRs] at this; exact this
          rw [hRs]
          refine K3.hop_plain rfl ?_
          exact out_load3 rfl k27 (HRun.out fw (hd4.trans hfB)) ⟨rfl, Below.refl _ _⟩
        refine K3.rel_cons (Φ := K3.Hop _ _ _ _ _ _ _) (k := 4) ?_ ?_
        · intro fa fw hfB hfN hfE hfk hft
          have k0 : fa.eval (.tmp 0) = .pointer (some ⟨b, 0, none⟩) := hft 0 (K3.mem_looks (by kernel_rfl)) (K3.noneed (by kernel_rfl))
          rw [hRs]
          refine K3.hop_plain rfl ?_
          refine K3.out_move rfl ?_
          exact ⟨k0, Below.refl _ _⟩
        refine K3.rel_cons (Φ := K3.Hop _ _ _ _ _ _ _) (k := 5) ?_ ?_
        · intro fa fw hfB hfN hfE hfk hft
          have k1 : fa.eval (.tmp 1) = .string x := hft 1 (K3.mem_looks (by kernel_rfl)) (K3.noneed (by kernel_rfl))
          rw [hRs]
          refine K3.hop_plain rfl ?_
          refine K3.out_move rfl ?_
          exact ⟨k1, Below.refl _ _⟩
        refine K3.rel_cons (Φ := K3.Hop _ _ _ _ _ _ _) (k := 6) ?_ ?_
        · intro fa fw hfB hfN hfE hfk hft
          have k29 : fa.eval (.tmp 29) = (.pointer (some ⟨b, 0, none⟩)) := by have := hfk 4 (K3.mem_needs (by kernel_rfl)) _ rfl; rw [hRs] at this; exact this
          have k30 : fa.eval (.tmp 30) = (.string x) := by have := hfk 5 (K3.mem_needs (by kernel_rfl)) _ rfl; rw [hRs] at this; exact this
          rw [hRs]
          refine K3.hop_plain rfl ?_
          have kf : fa.eval (.func 43) = .func (.func 43) #[] #[] := rfl
          refine K3.out_call (f := 43) (args := #[fa.eval (.tmp 29), fa.eval (.tmp 30)]) (by generalize fa.eval = ρ at *; simp [execOp, kf, go_sem]) ?_
          rw [k29, k30]
          exact (HAt.out fw (hd4.trans hfB)).mono fun e w' ⟨he, hw⟩ => ⟨_, he, rfl, hw⟩
        refine K3.rel_cons (Φ := K3.Hop _ _ _ _ _ _ _) (k := 7) ?_ ?_
        · intro fa fw hfB hfN hfE hfk hft
          have k28 : fa.eval (.tmp 28) = (.slice (some ⟨g, o, none⟩) A.length c) := by have := hfk 3 (K3.mem_needs (by kernel_rfl)) _ rfl; rw [hRs] at this; exact this
          have k31 : fa.eval (.tmp 31) = (.int .i64 (i : Nat)) := by have := hfk 6 (K3.mem_needs (by kernel_rfl)) _ rfl; rw [hRs] at this; exact this
          rw [hRs]
          refine K3.hop_plain rfl ?_
          have kc : ∀ v, fa.eval (.const v) = v := fun _ => rfl
          generalize fa.eval = ρ at *
          exact K3.out_run (v := .pointer (some ⟨g, o + i * 3, none⟩)) (w' := fw) (by simp [execOp, kc, k28, k31, go_sem, hltI, hnn]) ⟨rfl, Below.refl _ _⟩
        refine K3.rel_cons (Φ := K3.Hop _ _ _ _ _ _ _) (k := 8) ?_ ?_
        · intro fa fw hfB hfN hfE hfk hft
          have k32 : fa.eval (.tmp 32) = (.pointer (some ⟨g, o + i * 3, none⟩)) := by have := hfk 7 (K3.mem_needs (by kernel_rfl)) _ rfl; rw [hRs] at this; exact this
          rw [hRs]
          refine K3.hop_plain rfl ?_
          exact out_load3 rfl k32 (HFl.out fw (hd4.trans hfB)) ⟨rfl, Below.refl _ _⟩
        refine K3.rel_cons (Φ := K3.Hop _ _ _ _ _ _ _) (k := 9) ?_ ?_
        · intro fa fw hfB hfN hfE hfk hft
          rw [hRs]
          refine K3.hop_plain rfl ?_
          generalize fa.eval = ρ at *
          exact K3.out_run (v := .pointer (some ⟨fw.heap.size, 0, none⟩)) (w' := fw.alloc (.cells #[.string ⟨#[]⟩, .string ⟨#[]⟩, .int .i64 0] 68)) (by simp [execOp, go_sem]) ⟨⟨fw.heap.size, hfN, rfl, heap_alloc_new _ _⟩, (Below.refl _ _).alloc (Nat.le_refl _) _⟩
        refine K3.rel_cons (Φ := K3.Hop _ _ _ _ _ _ _) (k := 10) ?_ ?_
        · intro fa fw hfB hfN hfE hfk hft
          have k6 : (MadeF w2.heap.size #[.string ⟨#[]⟩, .string ⟨#[]⟩, .int .i64 0]) (fa.eval (.tmp 6)) fw := by have := hfk 9 (K3.mem_needs (by kernel_rfl)) _ rfl; rw [hRs] at this; exact this
          have k33 : fa.eval (.tmp 33) = (.agg (fV y).toArray) := by have := hfk 8 (K3.mem_needs (by kernel_rfl)) _ rfl; rw [hRs] at this; exact this
          rw [hRs]
          refine K3.hop_plain rfl ?_
          obtain ⟨B, hB0, hBv, hBh⟩ := k6.e
          exact out_storeF rfl (show fa.eval (.tmp 6) = _ from hBv) k33 hBh (fV_size y) rfl (fV_all y) ⟨(show MadeF w2.heap.size (fV y).toArray (fa.tmps.getD 6 undef) _ from ⟨B, hB0, hBv, setRow_heap _ _ _ _ _ _ hBh⟩), below_setRow (Below.refl _ _) hB0 _⟩
        exact K3.rel_nil
      · intro fa fw hfB hfy hff hfs hfd
        rw [hRs] at hfy
        have k6 : MadeF w2.heap.size (fV y).toArray (fa.tmps.getD 6 undef) fw := hfy 10 _ rfl (K3.unkilled (by decide))
        have HBf := Lib.hid (show Below w2.heap.size w2 fw from hd4.trans hfB)
        have e := K3.rel_frame [25, 26, 27, 28, 29, 30, 31, 32, 33, 6] (by kernel_rfl) hff hfs hfd
        simp only [List.foldl] at e
        clear hfy hff hfs hfd 
        generalize fa.tmps.getD 25 undef = x25 at e
        generalize fa.tmps.getD 26 undef = x26 at e
        generalize fa.tmps.getD 27 undef = x27 at e
        generalize fa.tmps.getD 28 undef = x28 at e
        generalize fa.tmps.getD 29 undef = x29 at e
        generalize fa.tmps.getD 30 undef = x30 at e
        generalize fa.tmps.getD 31 undef = x31 at e
        generalize fa.tmps.getD 32 undef = x32 at e
        generalize fa.tmps.getD 33 undef = x33 at e
        generalize fa.tmps.getD 6 undef = x6 at e k6
        simp [List.setIfInBounds_toArray, List.set_cons_succ, List.set_cons_zero] at e
        subst e
        obtain ⟨B, hB0, rfl, hBh⟩ := k6.e
        clear k6 hfB
        have c1 : fw.cell? ⟨B, 1, none⟩ = some (.string (mkB y.2.1)) := block_cell hBh 1
        have c2 : fw.cell? ⟨B, 2, none⟩ = some (.int .i64 (y.2.2 : Nat)) := block_cell hBh 2
        have f2 := block_free hBh 2
        have hB2 := block_set (i := 2) (u := .int .i64 (y.2.1.length : Nat)) hBh
        have Hr2 : Hid ((fw.setCell ⟨B, 2, none⟩ (.int .i64 (y.2.1.length : Nat))).rangeAt B 0 (fV (y.1, y.2.1, y.2.1.length))) := Lib.hid (box_range hB2)
        have HB2 : Hid (Below w2.heap.size w2 (fw.setCell ⟨B, 2, none⟩ (.int .i64 (y.2.1.length : Nat)))) := Lib.hid (HBf.out.setCell (by show w2.heap.size ≤ B; exact hB0) _)
        clear hB2 hBh hB0
        go_wp2_with (first | (refine wpList_load_mid rfl 68 (.tmp 6) rfl B 0 rfl [.string y.1, .string (mkB y.2.1), .int .i64 (y.2.1.length : Nat)] _ Hr2.out Try.underlying68 rfl fV_info ?_))
        refine (putR_any (D2.out.below HB2.out) hok.n' (y.1, y.2.1, y.2.1.length)).mono ?_
        rintro e w5 ⟨rfl, d5⟩
        have D5 := Lib.hid (Rd.castA HA1.out d5)
        clear d5
        go_wp2_with fail
        go_ret
        exact ⟨rfl, D5.out⟩
  · rw [stepR_pre hf]
    generalize findA h A x = r at *
    have hrb : (r != 0) = true := by simpa using hf
    clear hf d
    go_enter Try.func33, Try.ntmps33
    go_wp2_with fail
    refine HM.out.mono ?_
    rintro e w1 ⟨rfl, hB⟩
    have D1 := Lib.hid (D.out.below hB)
    clear hB
    go_wp2_with fail
    go_ret
    exact ⟨rfl, D1.out⟩
set_option maxRecDepth 100000 in
set_option maxHeartbeats 2000000 in
theorem removeR_any {S : Nat → Prop} {w0 : World} {b : Nat} {h : Hd} {A : List Ab} {w : World} (d : Rd S w0 b h A w) (hok : ROk h A) (x : ByteArray) :
    Calls Try.prog 36 #[.pointer (some ⟨b, 0, none⟩), .string x] w fun e w' => e = .returned (.int .i64 (stepR h A (drpA A x) (findA h A x) 1).1) ∧ Rd S w0 b (stepR h A (drpA A x) (findA h A x) 1).2.1 (stepR h A (drpA A x) (findA h A x) 1).2.2 w' := by
  have HM := Lib.hid (may_there d hok.n' x)
  have D := Lib.hid d
  by_cases hf : findA h A x = 0
  · obtain ⟨hdn, hgx, _⟩ := findA_ok hf
    rw [hf] at HM
    have HBe := Lib.hid (fun w1 (hB : Below w.heap.size w w1) => begins_any (d.below hB) hok.hd.left hok.hd.acts)
    have hsd : ∀ y ∈ drpA A x, y.2.2 ≤ y.2.1.length := fun y hy => hok.s y (drpA_mem.1 hy).1
    have hnd : (drpA A x).length ≤ 1048576 := by have := drpA_len A x; have := hok.n; omega
    have htd : totA (drpA A x) ≤ 1048576 := by have := @tot_drp A x; have := hok.t; omega
    have HSD := Lib.hid hsd
    have HE : Hid (stepR h A (drpA A x) (findA h A x) 1 = ((if decide (h.left = 1) = true then 7 else 0), (if decide (h.left = 1) = true then offR (actH h) else actH h), (if decide (h.left = 1) = true then (if doneR h = true then drpA A x else A).map (loseA h.keep h.torn) else (if doneR h = true then drpA A x else A)))) := Lib.hid (by
      by_cases hl : h.left = 1
      · have hd : doneR h = doesB 1 h.keep := by rw [doneR_eq, if_neg (by simp [hl])]
        rw [stepR_off hf hl, hd, decide_eq_true hl]; rfl
      · have hd : doneR h = true := by rw [doneR_eq, if_pos hl]
        rw [stepR_ok hf hl, hd, decide_eq_false hl]; rfl)
    rw [HE.out]
    have hdn2 : (actH h).down = false := hdn
    generalize decide (h.left = 1) = gs at *
    generalize doneR h = dn at *
    clear hf d hsd
    cases dn <;> cases gs
    · go_enter Try.func36, Try.ntmps36
      go_wp2_with fail
      refine HM.out.mono ?_
      rintro e w1 ⟨rfl, hB⟩
      have HB1 := Lib.hid hB
      clear hB
      go_wp2_with fail
      refine (HBe.out _ HB1.out).mono ?_
      rintro e w2 ⟨rfl, d2, _⟩
      have D2 := Lib.hid d2
      clear d2
      go_wp2_with fail
      refine (ends_any D2.out hdn2 hok.n' hok.t hok.s hok.k false).mono ?_
      rintro e w4 ⟨rfl, d4⟩
      have D4 := Lib.hid d4
      clear d4
      go_wp2_with fail
      go_ret
      exact ⟨rfl, D4.out⟩
    · go_enter Try.func36, Try.ntmps36
      go_wp2_with fail
      refine HM.out.mono ?_
      rintro e w1 ⟨rfl, hB⟩
      have HB1 := Lib.hid hB
      clear hB
      go_wp2_with fail
      refine (HBe.out _ HB1.out).mono ?_
      rintro e w2 ⟨rfl, d2, _⟩
      have D2 := Lib.hid d2
      clear d2
      go_wp2_with fail
      refine (ends_any D2.out hdn2 hok.n' hok.t hok.s hok.k true).mono ?_
      rintro e w4 ⟨rfl, d4⟩
      have D4 := Lib.hid d4
      clear d4
      go_wp2_with fail
      go_ret
      exact ⟨rfl, D4.out⟩
    · go_enter Try.func36, Try.ntmps36
      go_wp2_with fail
      refine HM.out.mono ?_
      rintro e w1 ⟨rfl, hB⟩
      have HB1 := Lib.hid hB
      clear hB
      go_wp2_with fail
      refine (HBe.out _ HB1.out).mono ?_
      rintro e w2 ⟨rfl, d2, _⟩
      have D2 := Lib.hid d2
      clear d2
      go_wp2_with fail
      refine (dropR_any D2.out hok.n' x).mono ?_
      rintro e w3 ⟨rfl, d3⟩
      have D3 := Lib.hid d3
      clear d3
      go_wp2_with fail
      refine (ends_any D3.out hdn2 hnd htd HSD.out hok.k false).mono ?_
      rintro e w4 ⟨rfl, d4⟩
      have D4 := Lib.hid d4
      clear d4
      go_wp2_with fail
      go_ret
      exact ⟨rfl, D4.out⟩
    · go_enter Try.func36, Try.ntmps36
      go_wp2_with fail
      refine HM.out.mono ?_
      rintro e w1 ⟨rfl, hB⟩
      have HB1 := Lib.hid hB
      clear hB
      go_wp2_with fail
      refine (HBe.out _ HB1.out).mono ?_
      rintro e w2 ⟨rfl, d2, _⟩
      have D2 := Lib.hid d2
      clear d2
      go_wp2_with fail
      refine (dropR_any D2.out hok.n' x).mono ?_
      rintro e w3 ⟨rfl, d3⟩
      have D3 := Lib.hid d3
      clear d3
      go_wp2_with fail
      refine (ends_any D3.out hdn2 hnd htd HSD.out hok.k true).mono ?_
      rintro e w4 ⟨rfl, d4⟩
      have D4 := Lib.hid d4
      clear d4
      go_wp2_with fail
      go_ret
      exact ⟨rfl, D4.out⟩
  · rw [stepR_pre hf]
    generalize findA h A x = r at *
    have hrb : (r != 0) = true := by simpa using hf
    clear hf d
    go_enter Try.func36, Try.ntmps36
    go_wp2_with fail
    refine HM.out.mono ?_
    rintro e w1 ⟨rfl, hB⟩
    have D1 := Lib.hid (D.out.below hB)
    clear hB
    go_wp2_with fail
    go_ret
    exact ⟨rfl, D1.out⟩
end Go.Proofs.Ytfmcemedaehcoaa
