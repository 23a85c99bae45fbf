/- Records are put to the file's end, and done. -/
import Derived.Test.YtbdlmdmbaajcmaaZf
namespace Go.Proofs.Ytbdlmdmbaajcmaa
set_option linter.unusedVariables false
set_option linter.unusedSimpArgs false
open Go.ChangeShapes Go.WideShapes Go.ChangeAt Go.RowKit

theorem app_at {TD : Nat → Prop} {d : Nat} {h : Hd} {A : List Ab} {w10 : World} {nm : ByteArray} {cc : List UInt8} (dv : DV TD d h A w10) (ld : ∀ k, TD k → k < w10.heap.size) (ho : HdOk h) (ht : totA A ≤ 1048576) (hn : A.length ≤ 1048576) (hc : cc.length ≤ 16777216) :
    ∀ (fw : World) (v : Value), fw.ownsRow w10.heap.size 5 1 v cc.length (G.cellsL cc) → Below w10.heap.size w10 fw → Calls Try.prog 46 #[.pointer (some ⟨d, 0, none⟩), .string nm, v] fw fun e w'' => e = .returned (.int .i64 (logR h A nm cc).1) ∧ (DV (Gr TD w10 w'') d (logR h A nm cc).2.1 (logR h A nm cc).2.2 w'' ∧ Kept TD w10 w'') ∧ Below 0 fw w'' := fun fw v hv pb => by
  have hb : Byt TD fw v cc := ⟨fun w1 hk => LAt.own (e := 5) (base := w10.heap.size) (fun x _ => bV_len x) (by
    rw [LF_cells]
    exact own_blockG hv (fun g hg hlt => hk.block g hlt (fun hT => by have := ld g hT; omega)))⟩
  refine (cAppend (dv.below pb) (fun k hk => Nat.lt_of_lt_of_le (ld k hk) pb.size) ho ht hn nm v cc hb hc).mono ?_
  rintro e w'' ⟨h1, h2, h3⟩
  exact ⟨h1, ⟨h2.mono (fun k hk => hk.imp id (fun x => ⟨Nat.le_trans pb.size x.1, x.2⟩)), (Kept.of_below pb).trans' h3⟩, h3.below (fun _ _ => Nat.zero_le _) (Nat.zero_le _)⟩
theorem byts_nil (w : World) : G.BytsA w (.slice none 0 0) [] := .inl ⟨rfl, rfl⟩
def LogEnd (TD TS : Nat → Prop) (b d : Nat) (nm : ByteArray) (m : Int) (r : Int × Hd × List Ab) (L L2 : List En) (w : World) (e : Ending) (w' : World) : Prop :=
  e = .returned (.int .i64 r.1) ∧ KvTo TD TS b d nm m r.2.1 r.2.2 (if r.1 = 0 then L2 else L) w w'
theorem total_mem : ∀ (R : List ByteArray), ∀ r ∈ R, r.size ≤ G.total R
  | [], r, h => by cases h
  | a :: l, r, h => by
    rcases List.mem_cons.1 h with rfl | h
    · show r.size ≤ r.size + G.total l; omega
    · have := total_mem l r h; show r.size ≤ a.size + G.total l; omega
set_option maxRecDepth 100000 in
set_option maxHeartbeats 8000000 in
/-- Records are put to the file's end, and done. -/
theorem log_any {TD TS : Nat → Prop} {b d : Nat} {nm : ByteArray} {m : Int} {h : Hd} {A : List Ab} {L : List En} {w : World} (kv : Kv TD TS b d nm m h A L w) (ho : HdOk h) (ht : totA A ≤ 1048576) (hn : A.length ≤ 1048576) (R : List ByteArray) (u : Value) (B0 : Nat) (hR : w.ownsRow B0 9 1 u R.length (R.map Value.string)) (hB0 : ∀ k, Or2 TD TS k → k < B0) (hz : G.total R + 8 * R.length ≤ 16777216) (hr : ∀ r ∈ R, r.size ≤ 1048576) (hl : L.length + R.length ≤ 8388608) :
    Calls Try.prog 44 #[.pointer (some ⟨b, 0, none⟩), u] w (LogEnd TD TS b d nm m (logR h A nm (G.recsL R)) L (doAll L R) w) := by
  obtain ⟨cc, hcc⟩ : ∃ cc, cc = G.recsL R := ⟨_, rfl⟩
  have hcl : cc.length ≤ 16777216 := by rw [hcc]; have := G.recsL_le R; omega
  have hstr : Strs w u R := Strs.ofRow hR
  have HPut := Lib.hid (show ∀ fw, Below w.heap.size w fw → Calls Try.prog 47 #[.slice none 0 0, u] fw (fun e w'' => ∃ v', e = .returned v' ∧ w''.ownsRow fw.heap.size 5 1 v' cc.length (G.cellsL cc) ∧ Below fw.heap.size fw w'') from fun fw hfw => by
    have := G.put_any (.slice none 0 0) u [] R fw (byts_nil fw) (hstr.below hfw) (by simp only [List.length_nil]; omega)
    rw [List.nil_append, ← hcc] at this
    exact this)
  rw [← hcc]
  have HApp := Lib.hid (app_at (nm := nm) (cc := cc) kv.dv kv.ld ho ht hn hcl)
  have HKv := Lib.hid kv
  have HR := Lib.hid hR
  have HB0 := Lib.hid hB0
  have Hr := Lib.hid hr
  obtain ⟨lv, hbox, _⟩ := kv.st.f
  have hlt := lt_of_block hbox
  obtain ⟨⟨pu, cu, hu⟩, hq⟩ := parts_cells hR
  have Hq := Lib.hid hq
  clear kv hR hB0 hr hcc hstr hq hz
  generalize logR h A nm cc = r9 at *
  obtain ⟨e9, h9, A9⟩ := r9
  go_enter Try.func44, Try.ntmps44
  go_upto_region 1 with fail
  generalize w = w10 at *
  have hd4 : Below w10.heap.size w10 w10.drew := (Below.refl _ _).drew
  have hRL : ∃ Rs : List (Value → World → Prop), Rs = [K3.PureV (.pointer (some ⟨b, 0, none⟩)),
      K3.PureV (.pointer (some ⟨b, 0, none⟩)),
      K3.PureV (.pointer (some ⟨b, 0, none⟩)),
      K3.PureV (.pointer (some ⟨d, 0, none⟩)),
      K3.PureV (.pointer (some ⟨b, 0, none⟩)),
      K3.PureV (.pointer (some ⟨b, 0, none⟩)),
      K3.PureV (.pointer (some ⟨b, 1, none⟩)),
      K3.PureV (.string nm),
      K3.PureV (u),
      PutW w10 cc,
      AppW TD d (e9, h9, A9) w10,
      AppW TD d (e9, h9, A9) w10] := ⟨_, rfl⟩
  obtain ⟨Rs, hRs⟩ := hRL
  refine K3.wp_region_rel2 0 (Nat.zero_le _) (K3.RL Rs) [2, 2, 2, 2, 2, 2, 2, 2, 2, 1, 1, 1] [1, 1, 1, 1, 1, 1, 1, 1, 1, 1, 2, 1] [[], [], [], [], [], [], [], [], [], [], [9], []] (by kernel_rfl) (by kernel_rfl) (K3.RL.st1 (by rw [hRs]; exact K3.st1_cons (K3.PureV.st1 _) (K3.st1_cons (K3.PureV.st1 _) (K3.st1_cons (K3.PureV.st1 _) (K3.st1_cons (K3.PureV.st1 _) (K3.st1_cons (K3.PureV.st1 _) (K3.st1_cons (K3.PureV.st1 _) (K3.st1_cons (K3.PureV.st1 _) (K3.st1_cons (K3.PureV.st1 _) (K3.st1_cons (K3.PureV.st1 _) (K3.st1_cons (PutW.st1 _ _) (K3.st1_cons (AppW.st1 _ _ _ _) (K3.st1_cons (AppW.st1 _ _ _ _) (K3.st1_nil)))))))))))))) (K3.RL.st2 (by rw [hRs]; exact K3.st2_cons (K3.PureV.st2 _ _ _) (K3.st2_cons (K3.PureV.st2 _ _ _) (K3.st2_cons (K3.PureV.st2 _ _ _) (K3.st2_cons (K3.PureV.st2 _ _ _) (K3.st2_cons (K3.PureV.st2 _ _ _) (K3.st2_cons (K3.PureV.st2 _ _ _) (K3.st2_cons (K3.PureV.st2 _ _ _) (K3.st2_cons (K3.PureV.st2 _ _ _) (K3.st2_cons (K3.PureV.st2 _ _ _) (K3.st2_skip (K3.st2_skip (K3.st2_skip (K3.st2_nil)))))))))))))) ?_ ?_ ?_
  · intro i o d hi hd
    have hmem := List.mem_of_getElem? hi
    simp only [List.mem_cons, List.not_mem_nil, or_false] at hmem
    rcases hmem with rfl | rfl | rfl | rfl | rfl | rfl | rfl | rfl | rfl | rfl | rfl | rfl <;> simp at hd <;> (subst hd; simp)
  · refine K3.rel_start (Φ := K3.Hop _ _ _ _ _ _ _) ?_
    refine K3.rel_cons (Φ := K3.Hop _ _ _ _ _ _ _) (k := 0) ?_ ?_
    · intro fa fw hfB hfN hfE hfk hft
      have k0 : fa.eval (.tmp 0) = .pointer (some ⟨b, 0, none⟩) := hft 0 (K3.mem_looks (by kernel_rfl)) (K3.noneed (by kernel_rfl))
      rw [hRs]
      refine K3.hop_plain rfl ?_
      refine K3.out_move rfl ?_
      exact ⟨k0, Below.refl _ _⟩
    refine K3.rel_cons (Φ := K3.Hop _ _ _ _ _ _ _) (k := 1) ?_ ?_
    · intro fa fw hfB hfN hfE hfk hft
      have k8 : fa.eval (.tmp 8) = (.pointer (some ⟨b, 0, none⟩)) := by have := hfk 0 (K3.mem_needs (by kernel_rfl)) _ rfl; rw [hRs] at this; exact this
      rw [hRs]
      refine K3.hop_plain rfl ?_
      have kc : ∀ v, fa.eval (.const v) = v := fun _ => rfl
      generalize fa.eval = ρ at *
      exact K3.out_run (v := .pointer (some ⟨b, 0, none⟩)) (w' := fw) (by simp [execOp, kc, k8, go_sem]) ⟨rfl, Below.refl _ _⟩
    refine K3.rel_cons (Φ := K3.Hop _ _ _ _ _ _ _) (k := 2) ?_ ?_
    · intro fa fw hfB hfN hfE hfk hft
      have k9 : fa.eval (.tmp 9) = (.pointer (some ⟨b, 0, none⟩)) := by have := hfk 1 (K3.mem_needs (by kernel_rfl)) _ rfl; rw [hRs] at this; exact this
      rw [hRs]
      refine K3.hop_plain rfl ?_
      have kc : ∀ v, fa.eval (.const v) = v := fun _ => rfl
      generalize fa.eval = ρ at *
      exact K3.out_run (v := .pointer (some ⟨b, 0, none⟩)) (w' := fw) (by simp [execOp, kc, k9, go_sem]) ⟨rfl, Below.refl _ _⟩
    refine K3.rel_cons (Φ := K3.Hop _ _ _ _ _ _ _) (k := 3) ?_ ?_
    · intro fa fw hfB hfN hfE hfk hft
      have hE : Below w10.drew.heap.size w10.drew fw := hfE (by kernel_rfl)
      have k10 : fa.eval (.tmp 10) = (.pointer (some ⟨b, 0, none⟩)) := by have := hfk 2 (K3.mem_needs (by kernel_rfl)) _ rfl; rw [hRs] at this; exact this
      rw [hRs]
      refine K3.hop_plain rfl ?_
      have hbx := (hE.block b (Nat.lt_of_lt_of_le hlt hd4.size)).trans (show w10.drew.heap[b]? = _ from hbox)
      exact out_load3 rfl k10 (by simp [stA, go_sem, block_cell hbx]) ⟨rfl, Below.refl _ _⟩
    refine K3.rel_cons (Φ := K3.Hop _ _ _ _ _ _ _) (k := 4) ?_ ?_
    · intro fa fw hfB hfN hfE hfk hft
      have k0 : fa.eval (.tmp 0) = .pointer (some ⟨b, 0, none⟩) := hft 0 (K3.mem_looks (by kernel_rfl)) (K3.noneed (by kernel_rfl))
      rw [hRs]
      refine K3.hop_plain rfl ?_
      refine K3.out_move rfl ?_
      exact ⟨k0, Below.refl _ _⟩
    refine K3.rel_cons (Φ := K3.Hop _ _ _ _ _ _ _) (k := 5) ?_ ?_
    · intro fa fw hfB hfN hfE hfk hft
      have k12 : fa.eval (.tmp 12) = (.pointer (some ⟨b, 0, none⟩)) := by have := hfk 4 (K3.mem_needs (by kernel_rfl)) _ rfl; rw [hRs] at this; exact this
      rw [hRs]
      refine K3.hop_plain rfl ?_
      have kc : ∀ v, fa.eval (.const v) = v := fun _ => rfl
      generalize fa.eval = ρ at *
      exact K3.out_run (v := .pointer (some ⟨b, 0, none⟩)) (w' := fw) (by simp [execOp, kc, k12, go_sem]) ⟨rfl, Below.refl _ _⟩
    refine K3.rel_cons (Φ := K3.Hop _ _ _ _ _ _ _) (k := 6) ?_ ?_
    · intro fa fw hfB hfN hfE hfk hft
      have k13 : fa.eval (.tmp 13) = (.pointer (some ⟨b, 0, none⟩)) := by have := hfk 5 (K3.mem_needs (by kernel_rfl)) _ rfl; rw [hRs] at this; exact this
      rw [hRs]
      refine K3.hop_plain rfl ?_
      have kc : ∀ v, fa.eval (.const v) = v := fun _ => rfl
      generalize fa.eval = ρ at *
      exact K3.out_run (v := .pointer (some ⟨b, 1, none⟩)) (w' := fw) (by simp [execOp, kc, k13, go_sem]) ⟨rfl, Below.refl _ _⟩
    refine K3.rel_cons (Φ := K3.Hop _ _ _ _ _ _ _) (k := 7) ?_ ?_
    · intro fa fw hfB hfN hfE hfk hft
      have hE : Below w10.drew.heap.size w10.drew fw := hfE (by kernel_rfl)
      have k14 : fa.eval (.tmp 14) = (.pointer (some ⟨b, 1, none⟩)) := by have := hfk 6 (K3.mem_needs (by kernel_rfl)) _ rfl; rw [hRs] at this; exact this
      rw [hRs]
      refine K3.hop_plain rfl ?_
      have hbx := (hE.block b (Nat.lt_of_lt_of_le hlt hd4.size)).trans (show w10.drew.heap[b]? = _ from hbox)
      exact out_load3 rfl k14 (by simp [stA, go_sem, block_cell hbx]) ⟨rfl, Below.refl _ _⟩
    refine K3.rel_cons (Φ := K3.Hop _ _ _ _ _ _ _) (k := 8) ?_ ?_
    · intro fa fw hfB hfN hfE hfk hft
      have k1 : fa.eval (.tmp 1) = u := hft 1 (K3.mem_looks (by kernel_rfl)) (K3.noneed (by kernel_rfl))
      rw [hRs]
      refine K3.hop_plain rfl ?_
      refine K3.out_move rfl ?_
      exact ⟨k1, Below.refl _ _⟩
    refine K3.rel_cons (Φ := K3.Hop _ _ _ _ _ _ _) (k := 9) ?_ ?_
    · intro fa fw hfB hfN hfE hfk hft
      have hE : Below w10.drew.heap.size w10.drew fw := hfE (by kernel_rfl)
      have k16 : fa.eval (.tmp 16) = (u) := by have := hfk 8 (K3.mem_needs (by kernel_rfl)) _ rfl; rw [hRs] at this; exact this
      rw [hRs]
      refine K3.hop_plain rfl ?_
      have hE2 := hd4.trans (hE.mono hd4.size)
      have kf : fa.eval (.func 47) = .func (.func 47) #[] #[] := rfl
      have kc : ∀ v, fa.eval (.const v) = v := fun _ => rfl
      refine K3.out_call (f := 47) (args := #[.slice none 0 0, u]) (by generalize fa.eval = ρ at *; simp [execOp, k16, kf, kc, go_sem]) ?_
      exact (HPut.out fw hE2).mono fun e w'' ⟨v', h1, h2, h3⟩ => ⟨v', h1, ⟨own_base h2 hE2.size, hE2.trans (h3.mono hE2.size)⟩, h3⟩
    refine K3.rel_cons (Φ := K3.Hop _ _ _ _ _ _ _) (k := 10) ?_ ?_
    · intro fa fw hfB hfN hfE hfk hft
      have k11 : fa.eval (.tmp 11) = (.pointer (some ⟨d, 0, none⟩)) := by have := hfk 3 (K3.mem_needs (by kernel_rfl)) _ rfl; rw [hRs] at this; exact this
      have k15 : fa.eval (.tmp 15) = (.string nm) := by have := hfk 7 (K3.mem_needs (by kernel_rfl)) _ rfl; rw [hRs] at this; exact this
      have k17 : (PutW w10 cc) (fa.eval (.tmp 17)) fw := by have := hfk 9 (K3.mem_needs (by kernel_rfl)) _ rfl; rw [hRs] at this; exact this
      rw [hRs]
      refine K3.hop_plain rfl ?_
      have kf : fa.eval (.func 46) = .func (.func 46) #[] #[] := rfl
      obtain ⟨po, pb⟩ := k17
      refine K3.out_call (f := 46) (args := #[.pointer (some ⟨d, 0, none⟩), .string nm, fa.eval (.tmp 17)]) (by generalize fa.eval = ρ at *; simp [execOp, k11, k15, kf, go_sem]) ?_
      exact (HApp.out fw (fa.eval (.tmp 17)) po pb).mono fun e w'' ⟨h1, h2, h3⟩ => ⟨_, h1, ⟨rfl, h2.1, h2.2⟩, h3⟩
    refine K3.rel_cons (Φ := K3.Hop _ _ _ _ _ _ _) (k := 11) ?_ ?_
    · intro fa fw hfB hfN hfE hfk hft
      have k18 : (AppW TD d (e9, h9, A9) w10) (fa.eval (.tmp 18)) fw := by have := hfk 10 (K3.mem_needs (by kernel_rfl)) _ rfl; rw [hRs] at this; exact this
      rw [hRs]
      refine K3.hop_plain rfl ?_
      refine K3.out_assign rfl ?_
      exact ⟨k18, Below.refl _ _⟩
    exact K3.rel_nil
  · intro fa fw hfB hfy hff hfs hfd
    rw [hRs] at hfy
    have k5 : AppW TD d (e9, h9, A9) w10 (fa.tmps.getD 5 undef) fw := hfy 11 _ rfl (K3.unkilled (by decide))
    have e := K3.rel_frame [8, 9, 10, 11, 12, 13, 14, 15, 16, 17, 18, 5] (by kernel_rfl) hff hfs hfd
    simp only [List.foldl] at e
    clear hfy hff hfs hfd 
    generalize fa.tmps.getD 8 undef = x8 at e
    generalize fa.tmps.getD 9 undef = x9 at e
    generalize fa.tmps.getD 10 undef = x10 at e
    generalize fa.tmps.getD 11 undef = x11 at e
    generalize fa.tmps.getD 12 undef = x12 at e
    generalize fa.tmps.getD 13 undef = x13 at e
    generalize fa.tmps.getD 14 undef = x14 at e
    generalize fa.tmps.getD 15 undef = x15 at e
    generalize fa.tmps.getD 16 undef = x16 at e
    generalize fa.tmps.getD 17 undef = x17 at e
    generalize fa.tmps.getD 18 undef = x18 at e
    generalize fa.tmps.getD 5 undef = x5 at e k5
    simp [List.setIfInBounds_toArray, List.set_cons_succ, List.set_cons_zero] at e
    subst e
    obtain ⟨ke, kd, kk⟩ := k5
    rw [ke]
    have HTo := Lib.hid (HKv.out.dev kd kk)
    clear ke kd kk hfB HPut HApp
    by_cases h0 : e9 = 0
    case neg =>
      have hne : (e9 != 0) = true := bne_iff_ne.2 h0
      have HTo2 := Lib.hid (show LogEnd TD TS b d nm m (e9, h9, A9) L (doAll L R) w10 (.returned (.int .i64 e9)) fw from ⟨rfl, by rw [if_neg h0]; exact HTo.out⟩)
      clear h0
      go_wp2_with fail
      go_ret
      exact HTo2.out
    subst h0
    subst hu
    go_wp2_with fail
    go_loopg [7, 24] R.length (fun g _ iv wr => ∃ j : Nat, j + g = R.length ∧ iv = .int .i64 j ∧ Hid (KvTo TD TS b d nm m h9 A9 (doAll L (R.take j)) w10 wr))
    case atStart => exact ⟨0, by omega, rfl, HTo⟩
    case round =>
      obtain ⟨j, hjg, rfl, HK⟩ := hrel
      by_cases hj : j < R.length
      · have hjI : (j : Int) < (R.length : Int) := by omega
        obtain ⟨g5, c5, hu5, hg0, hg5, hc5, hm5, hcell⟩ := Hq.out (by omega)
        injection hu5 with hu5 _ hu6
        subst hu5
        subst hu6
        obtain ⟨TD1, TS1, kv1, q1, q2, q3⟩ := HK.out
        have hcj := (Kept.cell' q3 hg5 (fun ho => by have := HB0.out g5 ho; omega) j).trans (hcell j hj)
        have hlj := doAll_len (R.take j) L
        rw [List.length_take] at hlj
        have HD := Lib.hid (do_any kv1.st kv1.ls (by omega) R[j] (Hr.out _ (List.getElem_mem hj)))
        have HG := Lib.hid (show doAll L (R.take (j + 1)) = doG (doAll L (R.take j)) R[j] from by rw [List.take_add_one, List.getElem?_eq_getElem hj]; exact doAll_snoc _ _ _)
        have Hkv1 := Lib.hid kv1
        have Hq3 := Lib.hid (show KvTo TD TS b d nm m h9 A9 (doAll L (R.take j)) w10 wr ∧ (∀ k, TD1 k → Gr TD w10 wr k) ∧ (∀ k, TS1 k → Gr TS w10 wr k) ∧ Kept (Or2 TD TS) w10 wr from ⟨HK.out, q1, q2, q3⟩)
        clear kv1 q1 q2 q3 HK hcell hlj
        generalize R[j] = r at *
        go_wp2_with fail
        refine HD.out.mono ?_
        rintro e w2 ⟨rfl, hS, hKk⟩
        have HTo2 := Lib.hid (Hkv1.out.sto hS hKk)
        clear hS hKk
        generalize (doC (doAll L (R.take j)) r).isSome = bb at *
        go_wp2_with fail
        go_roundg (gk - 1)
        case measure => omega
        case rel =>
          refine ⟨j + 1, by omega, by go_num, Lib.hid ?_⟩
          rw [HG.out]
          obtain ⟨_, q1, q2, q3⟩ := Hq3.out
          obtain ⟨TD2, TS2, r1, r2, r3, r4⟩ := HTo2.out
          refine ⟨TD2, TS2, r1, fun k hk => ?_, fun k hk => ?_, q3.trans (r4.mono fun k hk => ?_)⟩
          · exact Gr.step q3.size r4.size k (Gr.mono q1 k (r2 k hk))
          · exact Gr.step q3.size r4.size k (Gr.mono q2 k (r3 k hk))
          · rcases hk with hk | hk
            · exact (q1 k hk).imp .inl id
            · exact (q2 k hk).imp .inr id
      · obtain rfl : j = R.length := by omega
        have hjI : ¬ (R.length : Int) < (R.length : Int) := by omega
        have HTo2 := Lib.hid (show LogEnd TD TS b d nm m (0, h9, A9) L (doAll L R) w10 (.returned (.int .i64 0)) wr from ⟨rfl, by rw [if_pos rfl]; have := HK.out; rwa [List.take_length] at this⟩)
        go_wp2_with fail
        go_ret
        exact HTo2.out
end Go.Proofs.Ytbdlmdmbaajcmaa
