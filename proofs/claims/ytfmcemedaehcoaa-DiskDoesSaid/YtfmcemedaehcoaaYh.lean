/- Walks: the statement DiskDoes. -/
import Derived.Test.YtfmcemedaehcoaaYg
namespace Go.Proofs.Ytfmcemedaehcoaa
set_option linter.unusedVariables false
set_option linter.unusedSimpArgs false
open Go.ChangeShapes Go.WideShapes Go.ChangeAt Go.RowKit Go.ChangeMaps

/-- Both devices, behind a call. -/
def ST (base : Nat) (d m i : Nat) (h : Hd) (A : List Ab) (w : World) : Prop := ∃ T1 T2 h' A', PairT base T1 T2 d m h h' A A' w ∧ Rel i h h' A A'
theorem ST.st {base d m i : Nat} {h : Hd} {A : List Ab} {w w' : World} (s : ST base d m i h A w) (hB : Below w.heap.size w w') : ST base d m i h A w' := by
  obtain ⟨T1, T2, h', A', p, r⟩ := s
  exact ⟨T1, T2, h', A', p.below hB, r⟩
def JD (base : Nat) (T1 T2 : Nat → Prop) (d m i : Nat) (h h' hn : Hd) (A A' An : List Ab) : Nat → World → Prop
  | 0, w => PairT base T1 T2 d m h h' A A' w
  | _, w => ST base d m (i + 1) hn An w
theorem JD.st (base : Nat) (T1 T2 : Nat → Prop) (d m i : Nat) (h h' hn : Hd) (A A' An : List Ab) : ∀ c w1 w2, JD base T1 T2 d m i h h' hn A A' An c w1 → Below w1.heap.size w1 w2 → JD base T1 T2 d m i h h' hn A A' An c w2
  | 0, _, _, p, hB => PairT.below p hB
  | _ + 1, _, _, p, hB => ST.st p hB
def VS (base d m i : Nat) (h : Hd) (A : List Ab) (x : Value) : Value → World → Prop := fun v w => v = x ∧ ST base d m i h A w
theorem VS.st1 (base d m i : Nat) (h : Hd) (A : List Ab) (x : Value) : K5.St1 (VS base d m i h A x) := fun _ _ _ q hB => ⟨q.1, q.2.st hB⟩
def SR (ns : List ByteArray) : Value → World → Prop := fun v w => Strs w v ns
theorem SR.st1 (ns : List ByteArray) : K5.St1 (SR ns) := fun _ _ _ q hB => Strs.below q hB
theorem ST.actsL {base d m i : Nat} {h : Hd} {A : List Ab} {w : World} (s : ST base d m i h A w) : (loadVar 3 ⟨m, 3, none⟩).run Try.prog w = .ok (.int .i64 h.acts) w := by
  obtain ⟨T1, T2, h', A', p, r⟩ := s
  obtain ⟨v, hb, _⟩ := p.r.r
  have e := block_cell hb 3
  simp [go_sem, e, rV, r.acts.1]
theorem ST.downL {base d m i : Nat} {h : Hd} {A : List Ab} {w : World} (s : ST base d m i h A w) : (loadVar 4 ⟨m, 2, none⟩).run Try.prog w = .ok (.bool h.down) w := by
  obtain ⟨T1, T2, h', A', p, r⟩ := s
  obtain ⟨v, hb, _⟩ := p.r.r
  have e := block_cell hb 2
  simp [go_sem, e, rV, r.down]
section
variable {base d m i : Nat} {h : Hd} {A : List Ab} {w : World}
theorem ST.acts (s : ST base d m i h A w) : Calls Try.prog 15 #[.pointer (some ⟨d, 0, none⟩)] w fun e w' => e = .returned (.int .i64 h.acts) ∧ Below w.heap.size w w' := by
  obtain ⟨T1, T2, h', A', p, r⟩ := s
  exact (cActs p.c).mono fun e w' ⟨h1, h2⟩ => by subst h2; exact ⟨h1, Below.refl _ _⟩
theorem ST.down (s : ST base d m i h A w) : Calls Try.prog 16 #[.pointer (some ⟨d, 0, none⟩)] w fun e w' => e = .returned (.bool h.down) ∧ Below w.heap.size w w' := by
  obtain ⟨T1, T2, h', A', p, r⟩ := s
  exact (cDown p.c).mono fun e w' ⟨h1, h2⟩ => by subst h2; exact ⟨h1, Below.refl _ _⟩
theorem ST.free (s : ST base d m i h A w) (hi : i ≤ 1000) : Calls Try.prog 17 #[.pointer (some ⟨d, 0, none⟩)] w fun e w' => e = .returned (.int .i64 (h.room - (totA A : Nat))) ∧ Below w.heap.size w w' := by
  obtain ⟨T1, T2, h', A', p, r⟩ := s
  obtain ⟨o1, o2, o3, o4⟩ := r.ok hi
  exact cFree p.c o1 o2
theorem ST.freeR (s : ST base d m i h A w) (hi : i ≤ 1000) : Calls Try.prog 18 #[.pointer (some ⟨m, 0, none⟩)] w fun e w' => e = .returned (.int .i64 (h.room - (totA A : Nat))) ∧ Below w.heap.size w w' := by
  obtain ⟨T1, T2, h', A', p, r⟩ := s
  obtain ⟨o1, o2, o3, o4⟩ := r.ok hi
  have := freeR_any p.r.rd o4.hd.room o4.t o4.n'
  rw [← r.room.1, ← r.agr.tot] at this
  exact this
theorem ST.names (s : ST base d m i h A w) (hi : i ≤ 1000) : Calls Try.prog 20 #[.pointer (some ⟨d, 0, none⟩)] w (NamesS (nsOf A) w) := by
  obtain ⟨T1, T2, h', A', p, r⟩ := s
  obtain ⟨o1, o2, o3, o4⟩ := r.ok hi
  exact cNamesS p.c o3
theorem ST.namesR (s : ST base d m i h A w) (hi : i ≤ 1000) : Calls Try.prog 21 #[.pointer (some ⟨m, 0, none⟩)] w (NamesS (nsOf A) w) := by
  obtain ⟨T1, T2, h', A', p, r⟩ := s
  obtain ⟨o1, o2, o3, o4⟩ := r.ok hi
  exact rNamesS p.r o4.n' r.agr
end
set_option maxRecDepth 100000 in
set_option maxHeartbeats 8000000 in
theorem does_small (room : Int) (v : Value) (cs : List Cl) (w : World) (hl : LAt 7 clV w v cs) (hc : ∀ c ∈ cs, CIn w c) : Calls Try.prog 3 #[.int .i64 room, v] w (LawEnd w) := by
  obtain ⟨p, cp, rfl⟩ := hl.shapeC
  have hlen := hl.lenC
  unfold maxLen at hlen
  have HL := Lib.hid hl
  have HC := Lib.hid hc
  have HA := Lib.hid (alive_any w)
  clear hl hc
  go_enter Try.func3, Try.ntmps3
  go_wp2_with fail
  refine HA.out.mono ?_
  rintro e wa ⟨rfl, hb⟩
  have Ba := Lib.hid hb
  have HG := Lib.hid (great_any (HL.out.below hb) (fun c hc => (HC.out c hc).below hb))
  clear hb
  go_wp2_with fail
  refine HG.out.mono ?_
  intro e wb h9
  obtain ⟨g, rfl, hsm⟩ := h9.e
  have Bb := Lib.hid (Ba.out.trans (h9.b.mono Ba.out.size))
  clear h9
  cases g
  · have HSm := Lib.hid (hsm rfl)
    clear hsm
    go_wp2_with fail
    refine (cNew room _).mono ?_
    rintro e w1 ⟨rfl, d1, b1⟩
    have D1 := Lib.hid d1
    have B1 := Lib.hid b1
    clear d1 b1
    go_wp2_with fail
    refine (newR_any room _).mono ?_
    rintro e w2 ⟨rfl, d2⟩
    have P1 := Lib.hid (pair_new (base := wb.heap.size) D1.out d2 (Nat.le_refl _) B1.out)
    have BX := Lib.hid (B1.out.trans ((below_of_rd d2).mono B1.out.size))
    clear d2 D1 B1
    generalize wb.heap.size + 1 = d at *
    generalize w1.heap.size = m at *
    go_wp2_with fail
    go_loopg [28] cs.length (fun gg vi wr => ∃ (i : Nat) (T1 T2 : Nat → Prop) (h h1 : Hd) (A A1 : List Ab), vi = .int .i64 i ∧ i + gg = cs.length ∧ PairT wb.heap.size T1 T2 d m h h1 A A1 wr ∧ Rel i h h1 A A1 ∧ Below wb.heap.size wb wr)
    case atStart => exact ⟨0, _, _, _, _, _, _, rfl, by omega, P1.out, rel_new room, BX.out⟩
    case round =>
      obtain ⟨i, T1, T2, h, h1, A, A1, rfl, hig, hq, hr1, hB⟩ := hrel
      have hi8 : i ≤ 80 := by have := HSm.out.1; omega
      by_cases hlt : i < cs.length
      · have hltI : (i : Int) < (cs.length : Nat) := by omega
        obtain ⟨g, o, c', he, hg, hcc, hrg⟩ := (HL.out.below Bb.out).call hlt
        injection he with he1 _ he2
        subst he1 he2
        have hi80 : i ≤ 1000 := by omega
        have hi81 : i + 1 ≤ 1000 := by omega
        have Hrg := Lib.hid (range_below hrg hB hg)
        have Hc := Lib.hid ((HC.out _ (List.getElem_mem hlt)).below Bb.out)
        have Hs := Lib.hid (HSm.out.2 _ (List.getElem_mem hlt))
        obtain ⟨c0, hce⟩ : ∃ c0, c0 = cs[i] := ⟨_, rfl⟩
        rw [← hce] at Hrg Hc Hs
        have HB := Lib.hid hB
        have HQ2 := Lib.hid hq
        have HR1 := Lib.hid hr1
        clear hrg hB hce hq hr1 hcc
        obtain ⟨hn, hhn⟩ : ∃ q, q = (goC c0 h A).1 := ⟨_, rfl⟩
        obtain ⟨An, hAn⟩ : ∃ q, q = (goC c0 h A).2 := ⟨_, rfl⟩
        obtain ⟨fr, hfr⟩ : ∃ q, q = hn.room - (totA An : Nat) := ⟨_, rfl⟩
        have Hhn := Lib.hid hhn
        have HAn := Lib.hid hAn
        have Hfr := Lib.hid hfr
        clear hhn hAn hfr
        go_wp2_with (first | (refine wpList_load_mid rfl 31 (.tmp 30) rfl g (o + i * 7) rfl (clV c0) _ Hrg.out Try.underlying31 rfl (clV_info c0) ?_) | (refine wpList_store_rowTo rfl 31 (.tmp 8) (.tmp 31) rfl rfl wr.heap.size (clV c0).toArray rfl rfl 31 _ (heap_alloc_new wr _) (clV_size c0) rfl (clV_one Hc.out) ?_; refine box_absC (boxC_made wr _ c0) ?_; intro wx hbx; have HBx := Lib.hid hbx; clear hbx))
        have hbB : ¬ (T1 wr.heap.size ∨ T2 wr.heap.size) := fun hk => by rcases hk with hk | hk; exact absurd (HQ2.out.b1 _ hk).2 (by omega); exact absurd (HQ2.out.b2 _ hk).2 (by omega)
        have Hnb := Lib.hid hbB
        have HBx2 := Lib.hid (HB.out.trans (HBx.out.b.mono HB.out.size))
        have hdk : Kept (fun k => T1 k ∨ T2 k) wx wx.drew := Kept.of_below ((Below.refl _ _).drew)
        clear hbB
        have hRL : ∃ Rs : List (Value → World → Prop), Rs = [K5.PureV (.pointer (some ⟨d, 0, none⟩)),
            K5.PureV (.pointer (some ⟨m, 0, none⟩)),
            K5.PureV (.agg (clV c0).toArray),
            VS wb.heap.size d m (i + 1) hn An (.bool true),
            VS wb.heap.size d m (i + 1) hn An (.bool false),
            VS wb.heap.size d m (i + 1) hn An (.bool false),
            K5.PureV (.pointer (some ⟨d, 0, none⟩)),
            K5.PureV (.int .i64 hn.acts),
            K5.PureV (.pointer (some ⟨m, 0, none⟩)),
            K5.PureV (.pointer (some ⟨m, 0, none⟩)),
            K5.PureV (.pointer (some ⟨m, 3, none⟩)),
            K5.PureV (.int .i64 hn.acts),
            K5.PureV (.bool false),
            VS wb.heap.size d m (i + 1) hn An (.bool false),
            VS wb.heap.size d m (i + 1) hn An (.bool false),
            K5.PureV (.pointer (some ⟨d, 0, none⟩)),
            K5.PureV (.bool hn.down),
            K5.PureV (.pointer (some ⟨m, 0, none⟩)),
            K5.PureV (.pointer (some ⟨m, 0, none⟩)),
            K5.PureV (.pointer (some ⟨m, 2, none⟩)),
            K5.PureV (.bool hn.down),
            K5.PureV (.bool false),
            VS wb.heap.size d m (i + 1) hn An (.bool false),
            VS wb.heap.size d m (i + 1) hn An (.bool false),
            K5.PureV (.pointer (some ⟨d, 0, none⟩)),
            K5.PureV (.int .i64 fr),
            K5.PureV (.pointer (some ⟨m, 0, none⟩)),
            K5.PureV (.int .i64 fr),
            K5.PureV (.bool false),
            VS wb.heap.size d m (i + 1) hn An (.bool false),
            VS wb.heap.size d m (i + 1) hn An (.bool false),
            K5.PureV (.pointer (some ⟨d, 0, none⟩)),
            SR (nsOf An),
            K5.PureV (.pointer (some ⟨m, 0, none⟩)),
            SR (nsOf An),
            K5.PureV (.bool true),
            K5.PureV (.bool false),
            K5.PureV (.bool false)] := ⟨_, rfl⟩
        obtain ⟨Rs, hRs⟩ := hRL
        refine K5.wp_region_st (fun k => T1 k ∨ T2 k) trivial (K5.RL Rs) [2, 2, 2, 1, 1, 1, 2, 2, 2, 2, 2, 2, 2, 1, 1, 2, 2, 2, 2, 2, 2, 2, 1, 1, 2, 2, 2, 2, 2, 1, 1, 2, 1, 2, 1, 2, 2, 2] [1, 1, 1, 2, 1, 1, 1, 1, 1, 1, 1, 1, 1, 1, 1, 1, 1, 1, 1, 1, 1, 1, 1, 1, 1, 1, 1, 1, 1, 1, 1, 1, 1, 1, 1, 1, 1, 1] [] (JD wb.heap.size T1 T2 d m i h h1 hn A A1 An) (JD.st _ _ _ _ _ _ _ _ _ _ _ _) (show PairT _ _ _ _ _ _ _ _ _ _ from (HQ2.out.below HBx.out.b).below ((Below.refl _ _).drew)) (by kernel_rfl) (by kernel_rfl) (by kernel_rfl) (K5.RL.st1 (by rw [hRs]; exact K5.st1_cons (K5.PureV.st1 _) (K5.st1_cons (K5.PureV.st1 _) (K5.st1_cons (K5.PureV.st1 _) (K5.st1_cons (VS.st1 _ _ _ _ _ _ _) (K5.st1_cons (VS.st1 _ _ _ _ _ _ _) (K5.st1_cons (VS.st1 _ _ _ _ _ _ _) (K5.st1_cons (K5.PureV.st1 _) (K5.st1_cons (K5.PureV.st1 _) (K5.st1_cons (K5.PureV.st1 _) (K5.st1_cons (K5.PureV.st1 _) (K5.st1_cons (K5.PureV.st1 _) (K5.st1_cons (K5.PureV.st1 _) (K5.st1_cons (K5.PureV.st1 _) (K5.st1_cons (VS.st1 _ _ _ _ _ _ _) (K5.st1_cons (VS.st1 _ _ _ _ _ _ _) (K5.st1_cons (K5.PureV.st1 _) (K5.st1_cons (K5.PureV.st1 _) (K5.st1_cons (K5.PureV.st1 _) (K5.st1_cons (K5.PureV.st1 _) (K5.st1_cons (K5.PureV.st1 _) (K5.st1_cons (K5.PureV.st1 _) (K5.st1_cons (K5.PureV.st1 _) (K5.st1_cons (VS.st1 _ _ _ _ _ _ _) (K5.st1_cons (VS.st1 _ _ _ _ _ _ _) (K5.st1_cons (K5.PureV.st1 _) (K5.st1_cons (K5.PureV.st1 _) (K5.st1_cons (K5.PureV.st1 _) (K5.st1_cons (K5.PureV.st1 _) (K5.st1_cons (K5.PureV.st1 _) (K5.st1_cons (VS.st1 _ _ _ _ _ _ _) (K5.st1_cons (VS.st1 _ _ _ _ _ _ _) (K5.st1_cons (K5.PureV.st1 _) (K5.st1_cons (SR.st1 _) (K5.st1_cons (K5.PureV.st1 _) (K5.st1_cons (SR.st1 _) (K5.st1_cons (K5.PureV.st1 _) (K5.st1_cons (K5.PureV.st1 _) (K5.st1_cons (K5.PureV.st1 _) (K5.st1_nil)))))))))))))))))))))))))))))))))))))))) (K5.RL.st2 (by rw [hRs]; exact K5.st2_cons (K5.PureV.st2 _ _ _) (K5.st2_cons (K5.PureV.st2 _ _ _) (K5.st2_cons (K5.PureV.st2 _ _ _) (K5.st2_skip (K5.st2_skip (K5.st2_skip (K5.st2_cons (K5.PureV.st2 _ _ _) (K5.st2_cons (K5.PureV.st2 _ _ _) (K5.st2_cons (K5.PureV.st2 _ _ _) (K5.st2_cons (K5.PureV.st2 _ _ _) (K5.st2_cons (K5.PureV.st2 _ _ _) (K5.st2_cons (K5.PureV.st2 _ _ _) (K5.st2_cons (K5.PureV.st2 _ _ _) (K5.st2_skip (K5.st2_skip (K5.st2_cons (K5.PureV.st2 _ _ _) (K5.st2_cons (K5.PureV.st2 _ _ _) (K5.st2_cons (K5.PureV.st2 _ _ _) (K5.st2_cons (K5.PureV.st2 _ _ _) (K5.st2_cons (K5.PureV.st2 _ _ _) (K5.st2_cons (K5.PureV.st2 _ _ _) (K5.st2_cons (K5.PureV.st2 _ _ _) (K5.st2_skip (K5.st2_skip (K5.st2_cons (K5.PureV.st2 _ _ _) (K5.st2_cons (K5.PureV.st2 _ _ _) (K5.st2_cons (K5.PureV.st2 _ _ _) (K5.st2_cons (K5.PureV.st2 _ _ _) (K5.st2_cons (K5.PureV.st2 _ _ _) (K5.st2_skip (K5.st2_skip (K5.st2_cons (K5.PureV.st2 _ _ _) (K5.st2_skip (K5.st2_cons (K5.PureV.st2 _ _ _) (K5.st2_skip (K5.st2_cons (K5.PureV.st2 _ _ _) (K5.st2_cons (K5.PureV.st2 _ _ _) (K5.st2_cons (K5.PureV.st2 _ _ _) (K5.st2_nil)))))))))))))))))))))))))))))))))))))))) ?_ ?_ ?_
        · intro i o d hi hd
          have hmem := List.mem_of_getElem? hi
          simp only [List.mem_cons, List.not_mem_nil, or_false] at hmem
          rcases hmem with rfl | rfl | rfl | rfl | rfl | rfl | rfl | rfl | rfl | rfl | rfl | rfl | rfl | rfl | rfl | rfl | rfl | rfl | rfl | rfl | rfl | rfl | rfl | rfl | rfl | rfl | rfl | rfl | rfl | rfl | rfl | rfl | rfl | rfl | rfl | rfl | rfl | rfl <;> simp at hd <;> (subst hd; simp)
        · refine K5.rel_start (Φ := K5.Hop _ _ _ _ _ _ _ _) ?_
          refine K5.rel_cons (Φ := K5.Hop _ _ _ _ _ _ _ _) (k := 0) ?_ ?_
          · intro fa fw hfB hfJ hfE hfk hft
            have k5 : fa.eval (.tmp 5) = .pointer (some ⟨d, 0, none⟩) := hft 5 (K5.mem_looks (by kernel_rfl)) (K5.noneed (by kernel_rfl))
            rw [hRs]
            refine K5.hop_plain rfl ?_
            refine K5.out_move rfl ?_
            exact ⟨k5, Below.refl _ _⟩
          refine K5.rel_cons (Φ := K5.Hop _ _ _ _ _ _ _ _) (k := 1) ?_ ?_
          · intro fa fw hfB hfJ hfE hfk hft
            have k6 : fa.eval (.tmp 6) = .pointer (some ⟨m, 0, none⟩) := hft 6 (K5.mem_looks (by kernel_rfl)) (K5.noneed (by kernel_rfl))
            rw [hRs]
            refine K5.hop_plain rfl ?_
            refine K5.out_move rfl ?_
            exact ⟨k6, Below.refl _ _⟩
          refine K5.rel_cons (Φ := K5.Hop _ _ _ _ _ _ _ _) (k := 2) ?_ ?_
          · intro fa fw hfB hfJ hfE hfk hft
            have k8 : fa.eval (.tmp 8) = .pointer (some ⟨wr.heap.size, 0, none⟩) := hft 8 (K5.mem_looks (by kernel_rfl)) (K5.noneed (by kernel_rfl))
            rw [hRs]
            refine K5.hop_plain rfl ?_
            exact out_load5 rfl k8 (run_loadVar_mid (P := Try.prog) fw wr.heap.size 0 31 (clV c0) _ (fun j q hq => by rw [Nat.zero_add, block_cell (((hdk.trans' hfB).block wr.heap.size (lt_of_block HBx.out.h) Hnb.out).trans HBx.out.h)]; simpa using hq) Try.underlying31 rfl (clV_info c0)) ⟨rfl, Below.refl _ _⟩
          refine K5.rel_cons (Φ := K5.Hop _ _ _ _ _ _ _ _) (k := 3) ?_ ?_
          · intro fa fw hfB hfJ hfE hfk hft
            have k32 : fa.eval (.tmp 32) = (.pointer (some ⟨d, 0, none⟩)) := by have := hfk 0 (K5.mem_needs (by kernel_rfl)) _ rfl; rw [hRs] at this; exact this
            have k33 : fa.eval (.tmp 33) = (.pointer (some ⟨m, 0, none⟩)) := by have := hfk 1 (K5.mem_needs (by kernel_rfl)) _ rfl; rw [hRs] at this; exact this
            have k34 : fa.eval (.tmp 34) = (.agg (clV c0).toArray) := by have := hfk 2 (K5.mem_needs (by kernel_rfl)) _ rfl; rw [hRs] at this; exact this
            rw [hRs]
            refine K5.hop_plain rfl ?_
            have kf : fa.eval (.func 14) = .func (.func 14) #[] #[] := rfl
            have hj : PairT wb.heap.size T1 T2 d m h h1 A A1 fw := hfJ rfl
            refine K5.out_call (f := 14) (args := #[fa.eval (.tmp 32), fa.eval (.tmp 33), fa.eval (.tmp 34)]) (by generalize fa.eval = ρ at *; simp [execOp, kf, go_sem]) ?_
            rw [k32, k33, k34]
            refine (does_any hj HR1.out hi80 c0 (ClOk.of Hc.out Hs.out (HBx2.out.trans ((hdk.trans' hfB).below (fun k hk => by rcases hk with hk | hk; exact (hj.b1 k hk).1; exact (hj.b2 k hk).1) HBx2.out.size)) (fun k hk => by rcases hk with hk | hk; exact hj.b1 k hk; exact hj.b2 k hk))).mono ?_
            rintro e w9 ⟨he, T1', T2', h1', A1', q1, q2, q3, _, _⟩
            rw [← Hhn.out, ← HAn.out] at q1 q2
            exact ⟨_, he, ⟨rfl, T1', T2', h1', A1', q1, q2⟩, q3, T1', T2', h1', A1', q1, q2⟩
          refine K5.rel_cons (Φ := K5.Hop _ _ _ _ _ _ _ _) (k := 4) ?_ ?_
          · intro fa fw hfB hfJ hfE hfk hft
            have k35 : (VS wb.heap.size d m (i + 1) hn An (.bool true)) (fa.eval (.tmp 35)) fw := by have := hfk 3 (K5.mem_needs (by kernel_rfl)) _ rfl; rw [hRs] at this; exact this
            rw [hRs]
            refine K5.hop_plain rfl ?_
            have kc : ∀ v, fa.eval (.const v) = v := fun _ => rfl
            generalize fa.eval = ρ at *
            exact K5.out_run (v := .bool false) (w' := fw) (by simp [execOp, kc, show ρ (.tmp 35) = _ from k35.1, go_sem]) ⟨⟨rfl, k35.2⟩, Below.refl _ _⟩
          refine K5.rel_cons (Φ := K5.Hop _ _ _ _ _ _ _ _) (k := 5) ?_ ?_
          · intro fa fw hfB hfJ hfE hfk hft
            have k36 : (VS wb.heap.size d m (i + 1) hn An (.bool false)) (fa.eval (.tmp 36)) fw := by have := hfk 4 (K5.mem_needs (by kernel_rfl)) _ rfl; rw [hRs] at this; exact this
            rw [hRs]
            refine K5.hop_plain rfl ?_
            refine K5.out_move rfl ?_
            exact ⟨k36, Below.refl _ _⟩
          refine K5.rel_cons (Φ := K5.Hop _ _ _ _ _ _ _ _) (k := 6) ?_ ?_
          · intro fa fw hfB hfJ hfE hfk hft
            have k5 : fa.eval (.tmp 5) = .pointer (some ⟨d, 0, none⟩) := hft 5 (K5.mem_looks (by kernel_rfl)) (K5.noneed (by kernel_rfl))
            have k37 : (VS wb.heap.size d m (i + 1) hn An (.bool false)) (fa.eval (.tmp 37)) fw := by have := hfk 5 (K5.mem_needs (by kernel_rfl)) _ rfl; rw [hRs] at this; exact this
            rw [hRs]
            have kg := K5.get_bool (show fa.tmps.getD 37 undef = .bool false from k37.1)
            refine K5.hop_guard rfl (by simp [yielded, kg]) ?_
            refine K5.out_move rfl ?_
            exact ⟨k5, Below.refl _ _⟩
          refine K5.rel_cons (Φ := K5.Hop _ _ _ _ _ _ _ _) (k := 7) ?_ ?_
          · intro fa fw hfB hfJ hfE hfk hft
            have k38 : fa.eval (.tmp 38) = (.pointer (some ⟨d, 0, none⟩)) := by have := hfk 6 (K5.mem_needs (by kernel_rfl)) _ rfl; rw [hRs] at this; exact this
            have k37 : (VS wb.heap.size d m (i + 1) hn An (.bool false)) (fa.eval (.tmp 37)) fw := by have := hfk 5 (K5.mem_needs (by kernel_rfl)) _ rfl; rw [hRs] at this; exact this
            rw [hRs]
            have kg := K5.get_bool (show fa.tmps.getD 37 undef = .bool false from k37.1)
            refine K5.hop_guard rfl (by simp [yielded, kg]) ?_
            have kf : fa.eval (.func 15) = .func (.func 15) #[] #[] := rfl
            refine K5.out_call (f := 15) (args := #[fa.eval (.tmp 38)]) (by generalize fa.eval = ρ at *; simp [execOp, kf, go_sem]) ?_
            rw [k38]
            exact (k37.2.acts).mono fun e w9 q => ⟨_, q.1, rfl, q.2⟩
          refine K5.rel_cons (Φ := K5.Hop _ _ _ _ _ _ _ _) (k := 8) ?_ ?_
          · intro fa fw hfB hfJ hfE hfk hft
            have k6 : fa.eval (.tmp 6) = .pointer (some ⟨m, 0, none⟩) := hft 6 (K5.mem_looks (by kernel_rfl)) (K5.noneed (by kernel_rfl))
            have k37 : (VS wb.heap.size d m (i + 1) hn An (.bool false)) (fa.eval (.tmp 37)) fw := by have := hfk 5 (K5.mem_needs (by kernel_rfl)) _ rfl; rw [hRs] at this; exact this
            rw [hRs]
            have kg := K5.get_bool (show fa.tmps.getD 37 undef = .bool false from k37.1)
            refine K5.hop_guard rfl (by simp [yielded, kg]) ?_
            refine K5.out_move rfl ?_
            exact ⟨k6, Below.refl _ _⟩
          refine K5.rel_cons (Φ := K5.Hop _ _ _ _ _ _ _ _) (k := 9) ?_ ?_
          · intro fa fw hfB hfJ hfE hfk hft
            have k40 : fa.eval (.tmp 40) = (.pointer (some ⟨m, 0, none⟩)) := by have := hfk 8 (K5.mem_needs (by kernel_rfl)) _ rfl; rw [hRs] at this; exact this
            have k37 : (VS wb.heap.size d m (i + 1) hn An (.bool false)) (fa.eval (.tmp 37)) fw := by have := hfk 5 (K5.mem_needs (by kernel_rfl)) _ rfl; rw [hRs] at this; exact this
            rw [hRs]
            have kg := K5.get_bool (show fa.tmps.getD 37 undef = .bool false from k37.1)
            refine K5.hop_guard rfl (by simp [yielded, kg]) ?_
            have kc : ∀ v, fa.eval (.const v) = v := fun _ => rfl
            generalize fa.eval = ρ at *
            exact K5.out_run (v := .pointer (some ⟨m, 0, none⟩)) (w' := fw) (by simp [execOp, kc, k40, go_sem]) ⟨rfl, Below.refl _ _⟩
          refine K5.rel_cons (Φ := K5.Hop _ _ _ _ _ _ _ _) (k := 10) ?_ ?_
          · intro fa fw hfB hfJ hfE hfk hft
            have k41 : fa.eval (.tmp 41) = (.pointer (some ⟨m, 0, none⟩)) := by have := hfk 9 (K5.mem_needs (by kernel_rfl)) _ rfl; rw [hRs] at this; exact this
            have k37 : (VS wb.heap.size d m (i + 1) hn An (.bool false)) (fa.eval (.tmp 37)) fw := by have := hfk 5 (K5.mem_needs (by kernel_rfl)) _ rfl; rw [hRs] at this; exact this
            rw [hRs]
            have kg := K5.get_bool (show fa.tmps.getD 37 undef = .bool false from k37.1)
            refine K5.hop_guard rfl (by simp [yielded, kg]) ?_
            have kc : ∀ v, fa.eval (.const v) = v := fun _ => rfl
            generalize fa.eval = ρ at *
            exact K5.out_run (v := .pointer (some ⟨m, 3, none⟩)) (w' := fw) (by simp [execOp, kc, k41, go_sem]) ⟨rfl, Below.refl _ _⟩
          refine K5.rel_cons (Φ := K5.Hop _ _ _ _ _ _ _ _) (k := 11) ?_ ?_
          · intro fa fw hfB hfJ hfE hfk hft
            have k42 : fa.eval (.tmp 42) = (.pointer (some ⟨m, 3, none⟩)) := by have := hfk 10 (K5.mem_needs (by kernel_rfl)) _ rfl; rw [hRs] at this; exact this
            have k37 : (VS wb.heap.size d m (i + 1) hn An (.bool false)) (fa.eval (.tmp 37)) fw := by have := hfk 5 (K5.mem_needs (by kernel_rfl)) _ rfl; rw [hRs] at this; exact this
            rw [hRs]
            have kg := K5.get_bool (show fa.tmps.getD 37 undef = .bool false from k37.1)
            refine K5.hop_guard rfl (by simp [yielded, kg]) ?_
            exact out_load5 rfl k42 k37.2.actsL ⟨rfl, Below.refl _ _⟩
          refine K5.rel_cons (Φ := K5.Hop _ _ _ _ _ _ _ _) (k := 12) ?_ ?_
          · intro fa fw hfB hfJ hfE hfk hft
            have k39 : fa.eval (.tmp 39) = (.int .i64 hn.acts) := by have := hfk 7 (K5.mem_needs (by kernel_rfl)) _ rfl; rw [hRs] at this; exact this
            have k43 : fa.eval (.tmp 43) = (.int .i64 hn.acts) := by have := hfk 11 (K5.mem_needs (by kernel_rfl)) _ rfl; rw [hRs] at this; exact this
            have k37 : (VS wb.heap.size d m (i + 1) hn An (.bool false)) (fa.eval (.tmp 37)) fw := by have := hfk 5 (K5.mem_needs (by kernel_rfl)) _ rfl; rw [hRs] at this; exact this
            rw [hRs]
            have kg := K5.get_bool (show fa.tmps.getD 37 undef = .bool false from k37.1)
            refine K5.hop_guard rfl (by simp [yielded, kg]) ?_
            have kc : ∀ v, fa.eval (.const v) = v := fun _ => rfl
            generalize fa.eval = ρ at *
            exact K5.out_run (v := .bool false) (w' := fw) (by simp [execOp, kc, k39, k43, go_sem]) ⟨rfl, Below.refl _ _⟩
          refine K5.rel_cons (Φ := K5.Hop _ _ _ _ _ _ _ _) (k := 13) ?_ ?_
          · intro fa fw hfB hfJ hfE hfk hft
            have k37 : (VS wb.heap.size d m (i + 1) hn An (.bool false)) (fa.eval (.tmp 37)) fw := by have := hfk 5 (K5.mem_needs (by kernel_rfl)) _ rfl; rw [hRs] at this; exact this
            have k44 : fa.eval (.tmp 44) = (.bool false) := by have := hfk 12 (K5.mem_needs (by kernel_rfl)) _ rfl; rw [hRs] at this; exact this
            rw [hRs]
            refine K5.hop_plain rfl ?_
            have kc : ∀ v, fa.eval (.const v) = v := fun _ => rfl
            generalize fa.eval = ρ at *
            exact K5.out_run (v := .bool false) (w' := fw) (by simp [execOp, kc, show ρ (.tmp 37) = _ from k37.1, k44, go_sem]) ⟨⟨rfl, k37.2⟩, Below.refl _ _⟩
          refine K5.rel_cons (Φ := K5.Hop _ _ _ _ _ _ _ _) (k := 14) ?_ ?_
          · intro fa fw hfB hfJ hfE hfk hft
            have k45 : (VS wb.heap.size d m (i + 1) hn An (.bool false)) (fa.eval (.tmp 45)) fw := by have := hfk 13 (K5.mem_needs (by kernel_rfl)) _ rfl; rw [hRs] at this; exact this
            rw [hRs]
            refine K5.hop_plain rfl ?_
            refine K5.out_move rfl ?_
            exact ⟨k45, Below.refl _ _⟩
          refine K5.rel_cons (Φ := K5.Hop _ _ _ _ _ _ _ _) (k := 15) ?_ ?_
          · intro fa fw hfB hfJ hfE hfk hft
            have k5 : fa.eval (.tmp 5) = .pointer (some ⟨d, 0, none⟩) := hft 5 (K5.mem_looks (by kernel_rfl)) (K5.noneed (by kernel_rfl))
            have k46 : (VS wb.heap.size d m (i + 1) hn An (.bool false)) (fa.eval (.tmp 46)) fw := by have := hfk 14 (K5.mem_needs (by kernel_rfl)) _ rfl; rw [hRs] at this; exact this
            rw [hRs]
            have kg := K5.get_bool (show fa.tmps.getD 46 undef = .bool false from k46.1)
            refine K5.hop_guard rfl (by simp [yielded, kg]) ?_
            refine K5.out_move rfl ?_
            exact ⟨k5, Below.refl _ _⟩
          refine K5.rel_cons (Φ := K5.Hop _ _ _ _ _ _ _ _) (k := 16) ?_ ?_
          · intro fa fw hfB hfJ hfE hfk hft
            have k47 : fa.eval (.tmp 47) = (.pointer (some ⟨d, 0, none⟩)) := by have := hfk 15 (K5.mem_needs (by kernel_rfl)) _ rfl; rw [hRs] at this; exact this
            have k46 : (VS wb.heap.size d m (i + 1) hn An (.bool false)) (fa.eval (.tmp 46)) fw := by have := hfk 14 (K5.mem_needs (by kernel_rfl)) _ rfl; rw [hRs] at this; exact this
            rw [hRs]
            have kg := K5.get_bool (show fa.tmps.getD 46 undef = .bool false from k46.1)
            refine K5.hop_guard rfl (by simp [yielded, kg]) ?_
            have kf : fa.eval (.func 16) = .func (.func 16) #[] #[] := rfl
            refine K5.out_call (f := 16) (args := #[fa.eval (.tmp 47)]) (by generalize fa.eval = ρ at *; simp [execOp, kf, go_sem]) ?_
            rw [k47]
            exact (k46.2.down).mono fun e w9 q => ⟨_, q.1, rfl, q.2⟩
          refine K5.rel_cons (Φ := K5.Hop _ _ _ _ _ _ _ _) (k := 17) ?_ ?_
          · intro fa fw hfB hfJ hfE hfk hft
            have k6 : fa.eval (.tmp 6) = .pointer (some ⟨m, 0, none⟩) := hft 6 (K5.mem_looks (by kernel_rfl)) (K5.noneed (by kernel_rfl))
            have k46 : (VS wb.heap.size d m (i + 1) hn An (.bool false)) (fa.eval (.tmp 46)) fw := by have := hfk 14 (K5.mem_needs (by kernel_rfl)) _ rfl; rw [hRs] at this; exact this
            rw [hRs]
            have kg := K5.get_bool (show fa.tmps.getD 46 undef = .bool false from k46.1)
            refine K5.hop_guard rfl (by simp [yielded, kg]) ?_
            refine K5.out_move rfl ?_
            exact ⟨k6, Below.refl _ _⟩
          refine K5.rel_cons (Φ := K5.Hop _ _ _ _ _ _ _ _) (k := 18) ?_ ?_
          · intro fa fw hfB hfJ hfE hfk hft
            have k49 : fa.eval (.tmp 49) = (.pointer (some ⟨m, 0, none⟩)) := by have := hfk 17 (K5.mem_needs (by kernel_rfl)) _ rfl; rw [hRs] at this; exact this
            have k46 : (VS wb.heap.size d m (i + 1) hn An (.bool false)) (fa.eval (.tmp 46)) fw := by have := hfk 14 (K5.mem_needs (by kernel_rfl)) _ rfl; rw [hRs] at this; exact this
            rw [hRs]
            have kg := K5.get_bool (show fa.tmps.getD 46 undef = .bool false from k46.1)
            refine K5.hop_guard rfl (by simp [yielded, kg]) ?_
            have kc : ∀ v, fa.eval (.const v) = v := fun _ => rfl
            generalize fa.eval = ρ at *
            exact K5.out_run (v := .pointer (some ⟨m, 0, none⟩)) (w' := fw) (by simp [execOp, kc, k49, go_sem]) ⟨rfl, Below.refl _ _⟩
          refine K5.rel_cons (Φ := K5.Hop _ _ _ _ _ _ _ _) (k := 19) ?_ ?_
          · intro fa fw hfB hfJ hfE hfk hft
            have k50 : fa.eval (.tmp 50) = (.pointer (some ⟨m, 0, none⟩)) := by have := hfk 18 (K5.mem_needs (by kernel_rfl)) _ rfl; rw [hRs] at this; exact this
            have k46 : (VS wb.heap.size d m (i + 1) hn An (.bool false)) (fa.eval (.tmp 46)) fw := by have := hfk 14 (K5.mem_needs (by kernel_rfl)) _ rfl; rw [hRs] at this; exact this
            rw [hRs]
            have kg := K5.get_bool (show fa.tmps.getD 46 undef = .bool false from k46.1)
            refine K5.hop_guard rfl (by simp [yielded, kg]) ?_
            have kc : ∀ v, fa.eval (.const v) = v := fun _ => rfl
            generalize fa.eval = ρ at *
            exact K5.out_run (v := .pointer (some ⟨m, 2, none⟩)) (w' := fw) (by simp [execOp, kc, k50, go_sem]) ⟨rfl, Below.refl _ _⟩
          refine K5.rel_cons (Φ := K5.Hop _ _ _ _ _ _ _ _) (k := 20) ?_ ?_
          · intro fa fw hfB hfJ hfE hfk hft
            have k51 : fa.eval (.tmp 51) = (.pointer (some ⟨m, 2, none⟩)) := by have := hfk 19 (K5.mem_needs (by kernel_rfl)) _ rfl; rw [hRs] at this; exact this
            have k46 : (VS wb.heap.size d m (i + 1) hn An (.bool false)) (fa.eval (.tmp 46)) fw := by have := hfk 14 (K5.mem_needs (by kernel_rfl)) _ rfl; rw [hRs] at this; exact this
            rw [hRs]
            have kg := K5.get_bool (show fa.tmps.getD 46 undef = .bool false from k46.1)
            refine K5.hop_guard rfl (by simp [yielded, kg]) ?_
            exact out_load5 rfl k51 k46.2.downL ⟨rfl, Below.refl _ _⟩
          refine K5.rel_cons (Φ := K5.Hop _ _ _ _ _ _ _ _) (k := 21) ?_ ?_
          · intro fa fw hfB hfJ hfE hfk hft
            have k48 : fa.eval (.tmp 48) = (.bool hn.down) := by have := hfk 16 (K5.mem_needs (by kernel_rfl)) _ rfl; rw [hRs] at this; exact this
            have k52 : fa.eval (.tmp 52) = (.bool hn.down) := by have := hfk 20 (K5.mem_needs (by kernel_rfl)) _ rfl; rw [hRs] at this; exact this
            have k46 : (VS wb.heap.size d m (i + 1) hn An (.bool false)) (fa.eval (.tmp 46)) fw := by have := hfk 14 (K5.mem_needs (by kernel_rfl)) _ rfl; rw [hRs] at this; exact this
            rw [hRs]
            have kg := K5.get_bool (show fa.tmps.getD 46 undef = .bool false from k46.1)
            refine K5.hop_guard rfl (by simp [yielded, kg]) ?_
            have kc : ∀ v, fa.eval (.const v) = v := fun _ => rfl
            generalize fa.eval = ρ at *
            exact K5.out_run (v := .bool false) (w' := fw) (by simp [execOp, kc, k48, k52, go_sem]) ⟨rfl, Below.refl _ _⟩
          refine K5.rel_cons (Φ := K5.Hop _ _ _ _ _ _ _ _) (k := 22) ?_ ?_
          · intro fa fw hfB hfJ hfE hfk hft
            have k46 : (VS wb.heap.size d m (i + 1) hn An (.bool false)) (fa.eval (.tmp 46)) fw := by have := hfk 14 (K5.mem_needs (by kernel_rfl)) _ rfl; rw [hRs] at this; exact this
            have k53 : fa.eval (.tmp 53) = (.bool false) := by have := hfk 21 (K5.mem_needs (by kernel_rfl)) _ rfl; rw [hRs] at this; exact this
            rw [hRs]
            refine K5.hop_plain rfl ?_
            have kc : ∀ v, fa.eval (.const v) = v := fun _ => rfl
            generalize fa.eval = ρ at *
            exact K5.out_run (v := .bool false) (w' := fw) (by simp [execOp, kc, show ρ (.tmp 46) = _ from k46.1, k53, go_sem]) ⟨⟨rfl, k46.2⟩, Below.refl _ _⟩
          refine K5.rel_cons (Φ := K5.Hop _ _ _ _ _ _ _ _) (k := 23) ?_ ?_
          · intro fa fw hfB hfJ hfE hfk hft
            have k54 : (VS wb.heap.size d m (i + 1) hn An (.bool false)) (fa.eval (.tmp 54)) fw := by have := hfk 22 (K5.mem_needs (by kernel_rfl)) _ rfl; rw [hRs] at this; exact this
            rw [hRs]
            refine K5.hop_plain rfl ?_
            refine K5.out_move rfl ?_
            exact ⟨k54, Below.refl _ _⟩
          refine K5.rel_cons (Φ := K5.Hop _ _ _ _ _ _ _ _) (k := 24) ?_ ?_
          · intro fa fw hfB hfJ hfE hfk hft
            have k5 : fa.eval (.tmp 5) = .pointer (some ⟨d, 0, none⟩) := hft 5 (K5.mem_looks (by kernel_rfl)) (K5.noneed (by kernel_rfl))
            have k55 : (VS wb.heap.size d m (i + 1) hn An (.bool false)) (fa.eval (.tmp 55)) fw := by have := hfk 23 (K5.mem_needs (by kernel_rfl)) _ rfl; rw [hRs] at this; exact this
            rw [hRs]
            have kg := K5.get_bool (show fa.tmps.getD 55 undef = .bool false from k55.1)
            refine K5.hop_guard rfl (by simp [yielded, kg]) ?_
            refine K5.out_move rfl ?_
            exact ⟨k5, Below.refl _ _⟩
          refine K5.rel_cons (Φ := K5.Hop _ _ _ _ _ _ _ _) (k := 25) ?_ ?_
          · intro fa fw hfB hfJ hfE hfk hft
            have k56 : fa.eval (.tmp 56) = (.pointer (some ⟨d, 0, none⟩)) := by have := hfk 24 (K5.mem_needs (by kernel_rfl)) _ rfl; rw [hRs] at this; exact this
            have k55 : (VS wb.heap.size d m (i + 1) hn An (.bool false)) (fa.eval (.tmp 55)) fw := by have := hfk 23 (K5.mem_needs (by kernel_rfl)) _ rfl; rw [hRs] at this; exact this
            rw [hRs]
            have kg := K5.get_bool (show fa.tmps.getD 55 undef = .bool false from k55.1)
            refine K5.hop_guard rfl (by simp [yielded, kg]) ?_
            have kf : fa.eval (.func 17) = .func (.func 17) #[] #[] := rfl
            refine K5.out_call (f := 17) (args := #[fa.eval (.tmp 56)]) (by generalize fa.eval = ρ at *; simp [execOp, kf, go_sem]) ?_
            rw [k56]
            exact (k55.2.free hi81).mono fun e w9 q => ⟨_, q.1, by rw [Hfr.out]; rfl, q.2⟩
          refine K5.rel_cons (Φ := K5.Hop _ _ _ _ _ _ _ _) (k := 26) ?_ ?_
          · intro fa fw hfB hfJ hfE hfk hft
            have k6 : fa.eval (.tmp 6) = .pointer (some ⟨m, 0, none⟩) := hft 6 (K5.mem_looks (by kernel_rfl)) (K5.noneed (by kernel_rfl))
            have k55 : (VS wb.heap.size d m (i + 1) hn An (.bool false)) (fa.eval (.tmp 55)) fw := by have := hfk 23 (K5.mem_needs (by kernel_rfl)) _ rfl; rw [hRs] at this; exact this
            rw [hRs]
            have kg := K5.get_bool (show fa.tmps.getD 55 undef = .bool false from k55.1)
            refine K5.hop_guard rfl (by simp [yielded, kg]) ?_
            refine K5.out_move rfl ?_
            exact ⟨k6, Below.refl _ _⟩
          refine K5.rel_cons (Φ := K5.Hop _ _ _ _ _ _ _ _) (k := 27) ?_ ?_
          · intro fa fw hfB hfJ hfE hfk hft
            have k58 : fa.eval (.tmp 58) = (.pointer (some ⟨m, 0, none⟩)) := by have := hfk 26 (K5.mem_needs (by kernel_rfl)) _ rfl; rw [hRs] at this; exact this
            have k55 : (VS wb.heap.size d m (i + 1) hn An (.bool false)) (fa.eval (.tmp 55)) fw := by have := hfk 23 (K5.mem_needs (by kernel_rfl)) _ rfl; rw [hRs] at this; exact this
            rw [hRs]
            have kg := K5.get_bool (show fa.tmps.getD 55 undef = .bool false from k55.1)
            refine K5.hop_guard rfl (by simp [yielded, kg]) ?_
            have kf : fa.eval (.func 18) = .func (.func 18) #[] #[] := rfl
            refine K5.out_call (f := 18) (args := #[fa.eval (.tmp 58)]) (by generalize fa.eval = ρ at *; simp [execOp, kf, go_sem]) ?_
            rw [k58]
            exact (k55.2.freeR hi81).mono fun e w9 q => ⟨_, q.1, by rw [Hfr.out]; rfl, q.2⟩
          refine K5.rel_cons (Φ := K5.Hop _ _ _ _ _ _ _ _) (k := 28) ?_ ?_
          · intro fa fw hfB hfJ hfE hfk hft
            have k57 : fa.eval (.tmp 57) = (.int .i64 fr) := by have := hfk 25 (K5.mem_needs (by kernel_rfl)) _ rfl; rw [hRs] at this; exact this
            have k59 : fa.eval (.tmp 59) = (.int .i64 fr) := by have := hfk 27 (K5.mem_needs (by kernel_rfl)) _ rfl; rw [hRs] at this; exact this
            have k55 : (VS wb.heap.size d m (i + 1) hn An (.bool false)) (fa.eval (.tmp 55)) fw := by have := hfk 23 (K5.mem_needs (by kernel_rfl)) _ rfl; rw [hRs] at this; exact this
            rw [hRs]
            have kg := K5.get_bool (show fa.tmps.getD 55 undef = .bool false from k55.1)
            refine K5.hop_guard rfl (by simp [yielded, kg]) ?_
            have kc : ∀ v, fa.eval (.const v) = v := fun _ => rfl
            generalize fa.eval = ρ at *
            exact K5.out_run (v := .bool false) (w' := fw) (by simp [execOp, kc, k57, k59, go_sem]) ⟨rfl, Below.refl _ _⟩
          refine K5.rel_cons (Φ := K5.Hop _ _ _ _ _ _ _ _) (k := 29) ?_ ?_
          · intro fa fw hfB hfJ hfE hfk hft
            have k55 : (VS wb.heap.size d m (i + 1) hn An (.bool false)) (fa.eval (.tmp 55)) fw := by have := hfk 23 (K5.mem_needs (by kernel_rfl)) _ rfl; rw [hRs] at this; exact this
            have k60 : fa.eval (.tmp 60) = (.bool false) := by have := hfk 28 (K5.mem_needs (by kernel_rfl)) _ rfl; rw [hRs] at this; exact this
            rw [hRs]
            refine K5.hop_plain rfl ?_
            have kc : ∀ v, fa.eval (.const v) = v := fun _ => rfl
            generalize fa.eval = ρ at *
            exact K5.out_run (v := .bool false) (w' := fw) (by simp [execOp, kc, show ρ (.tmp 55) = _ from k55.1, k60, go_sem]) ⟨⟨rfl, k55.2⟩, Below.refl _ _⟩
          refine K5.rel_cons (Φ := K5.Hop _ _ _ _ _ _ _ _) (k := 30) ?_ ?_
          · intro fa fw hfB hfJ hfE hfk hft
            have k61 : (VS wb.heap.size d m (i + 1) hn An (.bool false)) (fa.eval (.tmp 61)) fw := by have := hfk 29 (K5.mem_needs (by kernel_rfl)) _ rfl; rw [hRs] at this; exact this
            rw [hRs]
            refine K5.hop_plain rfl ?_
            refine K5.out_move rfl ?_
            exact ⟨k61, Below.refl _ _⟩
          refine K5.rel_cons (Φ := K5.Hop _ _ _ _ _ _ _ _) (k := 31) ?_ ?_
          · intro fa fw hfB hfJ hfE hfk hft
            have k5 : fa.eval (.tmp 5) = .pointer (some ⟨d, 0, none⟩) := hft 5 (K5.mem_looks (by kernel_rfl)) (K5.noneed (by kernel_rfl))
            have k62 : (VS wb.heap.size d m (i + 1) hn An (.bool false)) (fa.eval (.tmp 62)) fw := by have := hfk 30 (K5.mem_needs (by kernel_rfl)) _ rfl; rw [hRs] at this; exact this
            rw [hRs]
            have kg := K5.get_bool (show fa.tmps.getD 62 undef = .bool false from k62.1)
            refine K5.hop_guard rfl (by simp [yielded, kg]) ?_
            refine K5.out_move rfl ?_
            exact ⟨k5, Below.refl _ _⟩
          refine K5.rel_cons (Φ := K5.Hop _ _ _ _ _ _ _ _) (k := 32) ?_ ?_
          · intro fa fw hfB hfJ hfE hfk hft
            have k63 : fa.eval (.tmp 63) = (.pointer (some ⟨d, 0, none⟩)) := by have := hfk 31 (K5.mem_needs (by kernel_rfl)) _ rfl; rw [hRs] at this; exact this
            have k62 : (VS wb.heap.size d m (i + 1) hn An (.bool false)) (fa.eval (.tmp 62)) fw := by have := hfk 30 (K5.mem_needs (by kernel_rfl)) _ rfl; rw [hRs] at this; exact this
            rw [hRs]
            have kg := K5.get_bool (show fa.tmps.getD 62 undef = .bool false from k62.1)
            refine K5.hop_guard rfl (by simp [yielded, kg]) ?_
            have kf : fa.eval (.func 20) = .func (.func 20) #[] #[] := rfl
            refine K5.out_call (f := 20) (args := #[fa.eval (.tmp 63)]) (by generalize fa.eval = ρ at *; simp [execOp, kf, go_sem]) ?_
            rw [k63]
            exact (k62.2.names hi81).mono fun e w9 q => (by obtain ⟨v, he, hs⟩ := q.e; exact ⟨v, he, hs, q.b⟩)
          refine K5.rel_cons (Φ := K5.Hop _ _ _ _ _ _ _ _) (k := 33) ?_ ?_
          · intro fa fw hfB hfJ hfE hfk hft
            have k6 : fa.eval (.tmp 6) = .pointer (some ⟨m, 0, none⟩) := hft 6 (K5.mem_looks (by kernel_rfl)) (K5.noneed (by kernel_rfl))
            have k62 : (VS wb.heap.size d m (i + 1) hn An (.bool false)) (fa.eval (.tmp 62)) fw := by have := hfk 30 (K5.mem_needs (by kernel_rfl)) _ rfl; rw [hRs] at this; exact this
            rw [hRs]
            have kg := K5.get_bool (show fa.tmps.getD 62 undef = .bool false from k62.1)
            refine K5.hop_guard rfl (by simp [yielded, kg]) ?_
            refine K5.out_move rfl ?_
            exact ⟨k6, Below.refl _ _⟩
          refine K5.rel_cons (Φ := K5.Hop _ _ _ _ _ _ _ _) (k := 34) ?_ ?_
          · intro fa fw hfB hfJ hfE hfk hft
            have k65 : fa.eval (.tmp 65) = (.pointer (some ⟨m, 0, none⟩)) := by have := hfk 33 (K5.mem_needs (by kernel_rfl)) _ rfl; rw [hRs] at this; exact this
            have k62 : (VS wb.heap.size d m (i + 1) hn An (.bool false)) (fa.eval (.tmp 62)) fw := by have := hfk 30 (K5.mem_needs (by kernel_rfl)) _ rfl; rw [hRs] at this; exact this
            rw [hRs]
            have kg := K5.get_bool (show fa.tmps.getD 62 undef = .bool false from k62.1)
            refine K5.hop_guard rfl (by simp [yielded, kg]) ?_
            have kf : fa.eval (.func 21) = .func (.func 21) #[] #[] := rfl
            refine K5.out_call (f := 21) (args := #[fa.eval (.tmp 65)]) (by generalize fa.eval = ρ at *; simp [execOp, kf, go_sem]) ?_
            rw [k65]
            exact (k62.2.namesR hi81).mono fun e w9 q => (by obtain ⟨v, he, hs⟩ := q.e; exact ⟨v, he, hs, q.b⟩)
          refine K5.rel_cons (Φ := K5.Hop _ _ _ _ _ _ _ _) (k := 35) ?_ ?_
          · intro fa fw hfB hfJ hfE hfk hft
            have k64 : (SR (nsOf An)) (fa.eval (.tmp 64)) fw := by have := hfk 32 (K5.mem_needs (by kernel_rfl)) _ rfl; rw [hRs] at this; exact this
            have k66 : (SR (nsOf An)) (fa.eval (.tmp 66)) fw := by have := hfk 34 (K5.mem_needs (by kernel_rfl)) _ rfl; rw [hRs] at this; exact this
            have k62 : (VS wb.heap.size d m (i + 1) hn An (.bool false)) (fa.eval (.tmp 62)) fw := by have := hfk 30 (K5.mem_needs (by kernel_rfl)) _ rfl; rw [hRs] at this; exact this
            rw [hRs]
            have kg := K5.get_bool (show fa.tmps.getD 62 undef = .bool false from k62.1)
            refine K5.hop_guard rfl (by simp [yielded, kg]) ?_
            have kf : fa.eval (.func 19) = .func (.func 19) #[] #[] := rfl
            refine K5.out_call (f := 19) (args := #[fa.eval (.tmp 64), fa.eval (.tmp 66)]) (by generalize fa.eval = ρ at *; simp [execOp, kf, go_sem]) ?_
            exact (same_ns k64 k66).mono fun e w9 q => ⟨_, q.1, rfl, q.2⟩
          refine K5.rel_cons (Φ := K5.Hop _ _ _ _ _ _ _ _) (k := 36) ?_ ?_
          · intro fa fw hfB hfJ hfE hfk hft
            have k67 : fa.eval (.tmp 67) = (.bool true) := by have := hfk 35 (K5.mem_needs (by kernel_rfl)) _ rfl; rw [hRs] at this; exact this
            have k62 : (VS wb.heap.size d m (i + 1) hn An (.bool false)) (fa.eval (.tmp 62)) fw := by have := hfk 30 (K5.mem_needs (by kernel_rfl)) _ rfl; rw [hRs] at this; exact this
            rw [hRs]
            have kg := K5.get_bool (show fa.tmps.getD 62 undef = .bool false from k62.1)
            refine K5.hop_guard rfl (by simp [yielded, kg]) ?_
            have kc : ∀ v, fa.eval (.const v) = v := fun _ => rfl
            generalize fa.eval = ρ at *
            exact K5.out_run (v := .bool false) (w' := fw) (by simp [execOp, kc, k67, go_sem]) ⟨rfl, Below.refl _ _⟩
          refine K5.rel_cons (Φ := K5.Hop _ _ _ _ _ _ _ _) (k := 37) ?_ ?_
          · intro fa fw hfB hfJ hfE hfk hft
            have k62 : (VS wb.heap.size d m (i + 1) hn An (.bool false)) (fa.eval (.tmp 62)) fw := by have := hfk 30 (K5.mem_needs (by kernel_rfl)) _ rfl; rw [hRs] at this; exact this
            have k68 : fa.eval (.tmp 68) = (.bool false) := by have := hfk 36 (K5.mem_needs (by kernel_rfl)) _ rfl; rw [hRs] at this; exact this
            rw [hRs]
            refine K5.hop_plain rfl ?_
            have kc : ∀ v, fa.eval (.const v) = v := fun _ => rfl
            generalize fa.eval = ρ at *
            exact K5.out_run (v := .bool false) (w' := fw) (by simp [execOp, kc, show ρ (.tmp 62) = _ from k62.1, k68, go_sem]) ⟨rfl, Below.refl _ _⟩
          exact K5.rel_nil
        · intro fa fw hfB hfJ hfy hff hfs hfd
          rw [hRs] at hfy
          have k69 : fa.eval (.tmp 69) = (.bool false) := hfy 37 _ rfl (K5.unkilled (by decide))
          have HJf : Hid (ST wb.heap.size d m (i + 1) hn An fw) := Lib.hid hfJ
          have HKf := Lib.hid (hdk.trans' hfB)
          clear hfJ hfB
          have e := K5.rel_frame [32, 33, 34, 35, 36, 37, 38, 39, 40, 41, 42, 43, 44, 45, 46, 47, 48, 49, 50, 51, 52, 53, 54, 55, 56, 57, 58, 59, 60, 61, 62, 63, 64, 65, 66, 67, 68, 69] (by kernel_rfl) hff hfs hfd
          simp only [List.foldl] at e
          rw [show fa.tmps.getD 69 undef = .bool false from k69] at e
          clear hfy hff hfs hfd k69
          generalize fa.tmps.getD 32 undef = x32 at e
          generalize fa.tmps.getD 33 undef = x33 at e
          generalize fa.tmps.getD 34 undef = x34 at e
          generalize fa.tmps.getD 35 undef = x35 at e
          generalize fa.tmps.getD 36 undef = x36 at e
          generalize fa.tmps.getD 37 undef = x37 at e
          generalize fa.tmps.getD 38 undef = x38 at e
          generalize fa.tmps.getD 39 undef = x39 at e
          generalize fa.tmps.getD 40 undef = x40 at e
          generalize fa.tmps.getD 41 undef = x41 at e
          generalize fa.tmps.getD 42 undef = x42 at e
          generalize fa.tmps.getD 43 undef = x43 at e
          generalize fa.tmps.getD 44 undef = x44 at e
          generalize fa.tmps.getD 45 undef = x45 at e
          generalize fa.tmps.getD 46 undef = x46 at e
          generalize fa.tmps.getD 47 undef = x47 at e
          generalize fa.tmps.getD 48 undef = x48 at e
          generalize fa.tmps.getD 49 undef = x49 at e
          generalize fa.tmps.getD 50 undef = x50 at e
          generalize fa.tmps.getD 51 undef = x51 at e
          generalize fa.tmps.getD 52 undef = x52 at e
          generalize fa.tmps.getD 53 undef = x53 at e
          generalize fa.tmps.getD 54 undef = x54 at e
          generalize fa.tmps.getD 55 undef = x55 at e
          generalize fa.tmps.getD 56 undef = x56 at e
          generalize fa.tmps.getD 57 undef = x57 at e
          generalize fa.tmps.getD 58 undef = x58 at e
          generalize fa.tmps.getD 59 undef = x59 at e
          generalize fa.tmps.getD 60 undef = x60 at e
          generalize fa.tmps.getD 61 undef = x61 at e
          generalize fa.tmps.getD 62 undef = x62 at e
          generalize fa.tmps.getD 63 undef = x63 at e
          generalize fa.tmps.getD 64 undef = x64 at e
          generalize fa.tmps.getD 65 undef = x65 at e
          generalize fa.tmps.getD 66 undef = x66 at e
          generalize fa.tmps.getD 67 undef = x67 at e
          generalize fa.tmps.getD 68 undef = x68 at e
          simp [List.setIfInBounds_toArray, List.set_cons_succ, List.set_cons_zero] at e
          subst e
          obtain ⟨T1', T2', h1', A1', p9, r9⟩ := HJf.out
          have P9 := Lib.hid p9
          have R9 := Lib.hid r9
          have B9 := Lib.hid (HBx2.out.trans (HKf.out.below (fun k hk => by rcases hk with hk | hk; exact (HQ2.out.b1 k hk).1; exact (HQ2.out.b2 k hk).1) HBx2.out.size))
          clear p9 r9
          go_wp2_with fail
          go_roundg (gk - 1)
          case measure => omega
          case rel => exact ⟨i + 1, T1', T2', hn, h1', An, A1', by go_num, by omega, P9.out, R9.out, B9.out⟩
      · have hltI : ¬ (i : Int) < (cs.length : Nat) := by omega
        have HQ2 := Lib.hid hq
        have HR1 := Lib.hid hr1
        have HB := Lib.hid hB
        clear hq hB hr1
        go_wp2_with fail
        refine (cOn HQ2.out.c).mono ?_
        rintro e w6 ⟨rfl, d6, k6⟩
        have p6 := HQ2.out.one (d6.mono (fun k hk => .inl hk)) k6
        obtain ⟨vm, hbm, _⟩ := p6.r.r
        have f2 := block_free hbm 2
        have e2 : w6.cell? ⟨m, 2, none⟩ = some (.bool h1.down) := block_cell hbm 2
        have HP7 := Lib.hid (p6.two p6.r.on.1 p6.r.on.2)
        have B7 := Lib.hid ((HB.out.trans (k6.below (fun k hk => (HQ2.out.b1 k hk).1) HB.out.size)).trans (p6.r.on.2.below (fun k hk => (p6.b2 k hk).1) (Nat.le_trans HB.out.size k6.size)))
        have R7 := Lib.hid HR1.out.on
        clear d6 k6 hbm p6
        go_wp2_with fail
        generalize w6.setCell ⟨m, 2, none⟩ (.bool false) = w7 at *
        obtain ⟨o1, o2, o3, o4⟩ := R7.out.ok (by omega)
        refine (rNamesS HP7.out.r o4.n' R7.out.agr).mono ?_
        intro e w8 h9
        obtain ⟨v8, rfl, hs8⟩ := h9.e
        obtain ⟨p8, c8, rfl⟩ := hs8.shape
        have B8 := Lib.hid (B7.out.trans (h9.b.mono B7.out.size))
        have HP8 := Lib.hid (HP7.out.below h9.b)
        have HS8 := Lib.hid hs8
        have HNs := Lib.hid R7.out.agr.ns
        clear h9 hs8
        go_wp2_with fail
        go_loopg [10, 11, 12, 13, 14, 79] (nsOf A).length (fun gg _ _ _ _ _ vi wr2 => ∃ j : Nat, vi = .int .i64 j ∧ j + gg = (nsOf A).length ∧ Below w8.heap.size w8 wr2)
        case atStart => exact ⟨0, rfl, by omega, Below.refl _ _⟩
        case round =>
          obtain ⟨j, rfl, hjg, hBj⟩ := hrel
          have BW := Lib.hid (Bb.out.trans ((B8.out.trans (hBj.mono B8.out.size)).mono Bb.out.size))
          by_cases hjl : j < (nsOf A).length
          · have hjI : (j : Int) < ((nsOf A).length : Nat) := by omega
            have HJ := Lib.hid (And.intro hjg hjl)
            rcases HS8.out with ⟨_, h0⟩ | ⟨bs, os, cps, hes, hls, hms, hbs, hcs⟩
            · rw [h0] at hjl; simp at hjl
            · injection hes with hes1 _ hes2
              subst hes1 hes2
              have hcj : wr.cell? ⟨bs, os + j, none⟩ = some (.string ((nsOf A).getD j ByteArray.empty)) := (hBj.cell (p := ⟨bs, os + j, none⟩) hbs).trans (hcs j hjl)
              have hjA : j < A1.length := by rw [HNs.out, List.length_map] at hjl; exact hjl
              have hnj : (nsOf A).getD j ByteArray.empty = A1[j].1 := by
                rw [HNs.out, List.getD_eq_getElem?_getD, List.getElem?_map, List.getElem?_eq_getElem hjA]; rfl
              have hjb : j ≤ 1048576 := by have := o4.n'; omega
              have hlk1 : lookA A1 A1[j].1 = some A1[j] := lookA_mem (nd_srt R7.out.agr.so) (List.getElem_mem hjA)
              have hlk : lookA A A1[j].1 = some A1[j] := (R7.out.agr.lk _).trans hlk1
              have hgd : goodN A1[j].1 = true := R7.out.gd _ (R7.out.agr.perm.mem_iff.2 (List.getElem_mem hjA))
              rw [hnj] at hcj
              obtain ⟨y, hy⟩ : ∃ y, A1[j] = y := ⟨_, rfl⟩
              rw [hy] at hcj hlk hlk1 hgd
              have hf : findA { h with down := false } A y.1 = 0 := by
                unfold findA
                rw [hlk, show readyE { h with down := false } y.1 = 0 from by unfold readyE; rw [if_neg (by simp), if_pos hgd]]
                rfl
              have Pj := Lib.hid (HP8.out.below hBj)
              have HRr := Lib.hid (fun w9 (hB9 : Below wr.heap.size wr w9) => readR_any (Pj.out.below hB9).r.rd o4.n' y.1)
              rw [R7.out.find, hf, if_pos rfl, hlk1] at HRr
              have HFL := Lib.hid (And.intro hf hlk)
              have HBj := Lib.hid hBj
              clear hnj hlk1 hlk hgd hy hf hcs hBj hms hls
              go_wp2_with fail
              refine (cRead Pj.out.c o2 y.1).mono ?_
              intro e w9 h9
              obtain ⟨v', rfl, ho, hb⟩ := h9.ok HFL.out.1 HFL.out.2
              obtain ⟨p7, c7, rfl⟩ := own_sliceN (own_zero ho)
              have Ho := Lib.hid ho
              have HB9 := Lib.hid hb
              clear ho hb h9
              go_wp2_with fail
              refine (HRr.out _ HB9.out).mono ?_
              rintro e w10 ⟨rfl, hb⟩
              have HB10 := Lib.hid (HB9.out.trans (hb.mono HB9.out.size))
              have hcv := own_conv (gen_own_below Ho.out hb)
              clear hb
              go_wp2_with fail
              go_roundg (gk - 1)
              case measure => have := HJ.out; omega
              case rel => exact ⟨j + 1, by go_num, by have := HJ.out; omega, HBj.out.trans (HB10.out.mono HBj.out.size)⟩
          · have hjI : ¬ (j : Int) < ((nsOf A).length : Nat) := by omega
            clear hBj
            go_wp2_with fail
            refine (off_nil 1 true _).mono ?_
            rintro e wn0 ⟨rfl, rfl⟩
            go_wp2_with fail
            refine (on_nil _).mono ?_
            rintro e wn1 ⟨rfl, rfl⟩
            go_wp2_with fail
            refine (arm_nil 1 1 true _).mono ?_
            rintro e wn2 ⟨rfl, rfl⟩
            go_wp2_with fail
            refine (read_nil ⟨#[102]⟩ _).mono ?_
            rintro e wn3 ⟨rfl, rfl⟩
            go_wp2_with fail
            refine (append_nil ⟨#[102]⟩ _).mono ?_
            rintro e wn4 ⟨rfl, hb⟩
            have Bn4 := Lib.hid (BW.out.trans (hb.mono BW.out.size))
            clear hb
            go_wp2_with fail
            refine (sync_nil ⟨#[102]⟩ _).mono ?_
            rintro e wn5 ⟨rfl, hb⟩
            have Bn5 := Lib.hid (Bn4.out.trans (hb.mono Bn4.out.size))
            clear hb
            go_wp2_with fail
            refine (cut_nil ⟨#[102]⟩ 0 _).mono ?_
            rintro e wn6 ⟨rfl, hb⟩
            have Bn6 := Lib.hid (Bn5.out.trans (hb.mono Bn5.out.size))
            clear hb
            go_wp2_with fail
            refine (rename_nil ⟨#[102]⟩ ⟨#[103]⟩ _).mono ?_
            rintro e wn7 ⟨rfl, hb⟩
            have Bn7 := Lib.hid (Bn6.out.trans (hb.mono Bn6.out.size))
            clear hb
            go_wp2_with fail
            refine (remove_nil ⟨#[102]⟩ _).mono ?_
            rintro e wn8 ⟨rfl, hb⟩
            have Bn8 := Lib.hid (Bn7.out.trans (hb.mono Bn7.out.size))
            clear hb
            go_wp2_with fail
            refine (names_nil _).mono ?_
            rintro e wn9 ⟨rfl, rfl⟩
            go_wp2_with fail
            refine (free_nil _).mono ?_
            rintro e wn10 ⟨rfl, rfl⟩
            go_wp2_with fail
            refine (acts_nil _).mono ?_
            rintro e wn11 ⟨rfl, rfl⟩
            go_wp2_with fail
            refine (down_nil _).mono ?_
            rintro e wn12 ⟨rfl, rfl⟩
            go_wp2_with fail
            go_ret
            exact ⟨rfl, Bn8.out⟩
  · clear hsm
    go_wp2_with fail
    go_ret
    exact ⟨rfl, Bb.out⟩
theorem does_walk (room : Int) (v : Value) (l : List CX) (w : World) (h : Rows w 7 (callR w) v l) : Calls Try.prog 3 #[.int .i64 room, v] w (LawEnd w) := by
  obtain ⟨cs, h1, h2⟩ := script_open h
  exact does_small room v cs w h1 h2
end Go.Proofs.Ytfmcemedaehcoaa
