/- The document's Sorted. -/
import Derived.Test.YtdhaanaenklleaaGreatDoorXZe
namespace Go.Proofs.YtdhaanaenklleaaGreatDoor
set_option linter.unusedVariables false
set_option linter.unusedSimpArgs false
open Go.ChangeShapes Go.WideShapes Go.ChangeAt Go.RowKit

theorem sorted_of_pw {l : List Fil} (h : l.Pairwise leF) : SortedF l := fun i j x y hij hx hy => by
  obtain ⟨hi, rfl⟩ := List.getElem?_eq_some_iff.1 hx
  obtain ⟨hj, rfl⟩ := List.getElem?_eq_some_iff.1 hy
  exact List.pairwise_iff_getElem.1 h i j hi hj hij
theorem ins_sorted {O : List Fil} {f : Fil} {n : Nat} (hs : SortedF O) (hn : n ≤ O.length) (h1 : ∀ m, n = m + 1 → ∀ hm : m < O.length, cmpP O[m].1 f.1 ≤ 0) (h2 : ∀ k, n ≤ k → ∀ hk : k < O.length, 0 < cmpP O[k].1 f.1) : SortedF (O.take n ++ [f] ++ O.drop n) := by
  have hp := hs.pw2
  have htd : (O.take n ++ O.drop n).Pairwise leF := by rw [List.take_append_drop]; exact hp
  obtain ⟨p1, p2, p3⟩ := List.pairwise_append.1 htd
  have hxf : ∀ x ∈ O.take n, leF x f := fun x hx => by
    obtain ⟨j, hj, rfl⟩ := List.getElem_of_mem hx
    rw [List.length_take] at hj
    rw [List.getElem_take]
    obtain ⟨m, rfl⟩ : ∃ m, n = m + 1 := ⟨n - 1, by omega⟩
    have hm := h1 m rfl (by omega)
    by_cases hjm : j = m
    · subst hjm; exact hm
    · exact pc_le _ _ _ (List.pairwise_iff_getElem.1 hp j m (by omega) (by omega) (by omega)) hm
  have hfy : ∀ y ∈ O.drop n, leF f y := fun y hy => by
    obtain ⟨j, hj, rfl⟩ := List.getElem_of_mem hy
    rw [List.length_drop] at hj
    rw [List.getElem_drop]
    have := h2 (n + j) (by omega) (by omega)
    have h3 := pc_neg O[n + j].1 f.1
    unfold leF
    omega
  refine sorted_of_pw (List.pairwise_append.2 ⟨List.pairwise_append.2 ⟨p1, List.pairwise_singleton _ _, fun x hx y hy => ?_⟩, p2, fun x hx y hy => ?_⟩)
  · rw [List.mem_singleton.1 hy]; exact hxf x hx
  · rcases List.mem_append.1 hx with hx | hx
    · exact p3 x hx y hy
    · rw [List.mem_singleton.1 hx]; exact hfy y hy
theorem ins_perm {O l : List Fil} {f : Fil} (n : Nat) (h : O.Perm l) : (O.take n ++ [f] ++ O.drop n).Perm (l ++ [f]) := by
  have h1 : (O.take n ++ [f] ++ O.drop n).Perm (f :: (O.take n ++ O.drop n)) := by
    rw [List.append_assoc, List.singleton_append]; exact List.perm_middle
  rw [List.take_append_drop] at h1
  have h2 : (l ++ [f]).Perm (f :: l) := List.perm_middle (a := f) (l₁ := l) (l₂ := []) |>.trans (by simp)
  exact h1.trans ((List.Perm.cons f h).trans h2.symm)
def NewE (N0 : Nat) : Value → World → Prop := fun v w => ∃ B, v = .slice (some ⟨B, 0, none⟩) 0 0 ∧ N0 ≤ B ∧ w.heap[B]? = some (.cells #[] 44 (0, 0))
theorem NewE.st1 (N0 : Nat) : K3.St1 (NewE N0) := fun v w1 w2 ⟨B, h1, h2, h3⟩ hB => ⟨B, h1, h2, by rw [hB.block B (lt_of_block h3), h3]⟩
structure RowF (N0 : Nat) (l : List Fil) (v : Value) (w : World) : Prop where
  own : w.ownsRow N0 44 2 v l.length (LF filV l)
theorem RowF.st1 (N0 : Nat) (l : List Fil) : K3.St1 (RowF N0 l) := fun v w1 w2 h hB => ⟨gen_own_below h.own hB⟩
set_option maxRecDepth 100000 in
set_option maxHeartbeats 12000000 in
theorem sorted15_any (v : Value) (a : List Fil) (w : World) (hv : LAt 2 filV w v a) (hl : a.length ≤ 60) (hz : ∀ x ∈ a, x.1.size ≤ 1073741824) :
    Calls Tryz.prog 15 #[v] w fun e w' => ∃ (vo : Value) (O : List Fil), e = .returned vo ∧ O.Perm a ∧ SortedF O ∧ w'.ownsRow w.heap.size 44 2 vo O.length (LF filV O) ∧ Below w.heap.size w w' := by
  have hk : LatK (fun _ => False) w v a := ⟨hv, fun _ _ _ _ _ _ h => h⟩
  obtain ⟨p, len, c, rfl, hn⟩ := hk.shape
  have Hn := Lib.hid hn
  have Hv := Lib.hid hv
  have Hz := Lib.hid hz
  have hl60 : len ≤ 60 := by omega
  clear hk hv hz hn hl
  go_enter Tryz.func15, Tryz.ntmps15
  go_wp2_with fail
  go_loopg [3, 9] len (fun g vo iv wr => ∃ (i : Nat) (O : List Fil), i + g = len ∧ iv = .int .i64 i ∧ O.Perm (a.take i) ∧ SortedF O ∧ wr.ownsRow w.heap.size 44 2 vo O.length (LF filV O) ∧ Below w.heap.size w wr)
  case atStart => exact ⟨0, [], by omega, rfl, List.Perm.refl _, fun i j x y _ hx => by simp at hx, ⟨rfl, .inl ⟨rfl, rfl⟩⟩, Below.refl _ _⟩
  case round =>
    obtain ⟨i, O, hig, rfl, hp, hs, hown, hB⟩ := hrel
    have Hp := Lib.hid hp
    have Hs := Lib.hid hs
    have Hown := Lib.hid hown
    have HB := Lib.hid hB
    have Hig := Lib.hid hig
    clear hp hs hown hB
    by_cases hlt : i < len
    · have hltI : (i : Int) < (len : Int) := by omega
      have hia : i < a.length := by have := Hn.out; omega
      obtain ⟨g1, o1, rfl, hg1, hlc, hlm, hrange⟩ := lat_at Hv.out (by omega)
      obtain ⟨f, hf⟩ : ∃ f, f = a[i] := ⟨_, rfl⟩
      have hrg := hrange i hia
      rw [← hf] at hrg
      have Hrg := Lib.hid (range_below hg1 hrg HB.out)
      have hfz : f.1.size ≤ 1073741824 := by rw [hf]; exact Hz.out _ (List.getElem_mem hia)
      have hlcL : len ≤ c := by have := Hn.out; omega
      have hl2 : (filV f).length = 2 := filV_len f
      have Hone := Lib.hid (one_row (filV_one f))
      have hi0 : (Tryz.prog.info? 44).map (·.size) = some 2 := by kernel_rfl
      have Hi1 := Lib.hid (show (Tryz.prog.info? 44).map (·.size) = some (filV f).length by rw [hi0, hl2])
      have Hi2 := Lib.hid (show (Tryz.prog.info? 44).map (·.size) = some ((filV f).toArray).size by rw [hi0, List.size_toArray, hl2])
      have Hsz2 := Lib.hid (show 2 = ((filV f).toArray).size by rw [List.size_toArray, hl2])
      have Hbx := Lib.hid (fun old => boxL_made wr old 44 (filV f))
      have Htk := Lib.hid (show a.take (i + 1) = a.take i ++ [f] by rw [hf]; exact List.take_succ_eq_append_getElem hia)
      have hOl : O.length ≤ 60 := by
        have := Hp.out.length_eq
        rw [List.length_take] at this
        omega
      have hOz : ∀ x ∈ O, x.1.size ≤ 1073741824 := fun x hx => Hz.out x (List.mem_of_mem_take (Hp.out.mem_iff.1 hx))
      have HOz := Lib.hid hOz
      obtain ⟨ep, ec, hve⟩ := own_slice2 Hown.out
      obtain ⟨ln, hln⟩ : ∃ ln, ln = O.length := ⟨_, rfl⟩
      rw [← hln] at hve hOl
      have Hln := Lib.hid hln
      subst hve
      clear hrange hrg hf hl2 hi0 hOz hln
      go_upto_region 5 with (first | (refine wpList_load_mid rfl 44 (.tmp 11) rfl g1 (o1 + i * 2) rfl (filV f) _ Hrg.out Tryz.underlying44 rfl Hi1.out ?_) | (refine wpList_store_rowTo rfl 44 (.tmp 5) (.tmp 12) rfl rfl wr.heap.size (filV f).toArray rfl rfl 44 _ (heap_alloc_new wr _) Hi2.out (by rw [← Hsz2.out]; rfl) Hone.out ?_))
      refine box_abs (Hbx.out _) ?_
      intro w8 hbx8
      have HBx8 := Lib.hid hbx8
      obtain ⟨bx, hbx⟩ : ∃ q, q = wr.heap.size := ⟨_, rfl⟩
      rw [← hbx] at HBx8 ⊢
      have HB8 := Lib.hid (HB.out.trans (hbx8.b.mono HB.out.size))
      have Hown8 := Lib.hid (gen_own_below Hown.out hbx8.b)
      clear hbx8 hbx Hbx Hrg Hone Hi1 Hi2 Hsz2 Hown HB
      have HLat8 := Lib.hid (LAt.own (e := 44) (fun x _ => filV_len x) Hown8.out)
      go_wp2_with fail
      obtain ⟨gko, hgko⟩ : ∃ q, q = gk := ⟨_, rfl⟩
      rw [← hgko] at Hig
      clear hgko
      generalize wr = wo at *
      go_loopg [6] ln (fun g av wr => ∃ n : Nat, n = g ∧ av = .int .i64 n ∧ n ≤ ln ∧ (∀ k, n ≤ k → ∀ hk : k < O.length, 0 < cmpP O[k].1 f.1) ∧ Below w8.heap.size w8 wr)
      case atStart => exact ⟨ln, rfl, rfl, Nat.le_refl _, fun k h1 h2 => by have := Hln.out; omega, Below.refl _ _⟩
      case round =>
        obtain ⟨n, hng, rfl, hnl, hgt0, hBw⟩ := hrel
        have Hng := Lib.hid hng
        have Hgt0 := Lib.hid hgt0
        have HBw := Lib.hid hBw
        have hn : n ≤ O.length := by have := Hln.out; omega
        have hOL : O.length ≤ 60 := by have := Hln.out; omega
        clear hng hgt0 hBw
        rcases Nat.eq_zero_or_pos n with h0 | h0
        · have hd0 : decide (0 < n) = false := decide_eq_false (by omega)
          have hd0I : decide ((0 : Int) < (n : Int)) = false := decide_eq_false (by omega)
          have Hins := Lib.hid (ins_sorted Hs.out hn (fun m h => by omega) Hgt0.out)
          have Hperm := Lib.hid (show (O.take n ++ [f] ++ O.drop n).Perm (a.take (i + 1)) by rw [Htk.out]; exact ins_perm n Hp.out)
          clear h0
          go_wp2_with fail
          refine wp_region_class (Below wr.heap.size wr) (by kernel_rfl) (by kernel_rfl) (Below.refl _ _).drew ?_
          repeat (go_big_quiet_step (first | (intro _; rfl)))
          refine wpQuiet_nil ?_
          intro w5 hBq
          have Hb85 := Lib.hid (HBw.out.trans (hBq.mono HBw.out.size))
          have Hb5 := Lib.hid (HB8.out.trans (Hb85.out.mono HB8.out.size))
          have Hown5 := Lib.hid (gen_own_below Hown8.out Hb85.out)
          have HBx5 := Lib.hid (HBx8.out.below Hb85.out)
          clear hBq
          go_wp2_with fail
          have hd5 : Below w5.heap.size w5 w5.drew := (Below.refl _ _).drew
          obtain ⟨vt, hvt, hct⟩ := gen_take eltF (LAt.own (e := 44) (fun x _ => filV_len x) Hown5.out) n hn
          obtain ⟨vd, hvd, hcd⟩ := gen_drop eltF (LAt.own (e := 44) (fun x _ => filV_len x) Hown5.out) n hn
          have Hvt := Lib.hid hvt
          have Hvd := Lib.hid hvd
          replace hct := hct.below hd5
          replace hcd := hcd.below hd5
          have HFl := Lib.hid (fun wx (hx : Below w5.drew.heap.size w5.drew wx) => run_loadVar_mid (P := Tryz.prog) wx bx 0 44 (filV f) _ (fun j y hy => by
            have h9 := ((HBx5.out.below hd5).below hx).r j y hy
            rw [Nat.zero_add]; exact h9) Tryz.underlying44 rfl (by rw [filV_len]; kernel_rfl))
          clear hvt hvd
          have hRL : ∃ Rs : List (Value → World → Prop), Rs = [NewE w5.heap.size,
              K3.PureV (.slice ep ln ec),
              K3.PureV (.int .i64 n),
              K3.PureV (vt),
              RowF w5.heap.size (O.take n),
              K3.PureV (.agg (filV f).toArray),
              K3.NewB 1 (filV f).toArray 44,
              RowF w5.heap.size (O.take n ++ [f]),
              K3.PureV (.slice ep ln ec),
              K3.PureV (.int .i64 n),
              K3.PureV (vd),
              RowF w5.heap.size (O.take n ++ [f] ++ O.drop n),
              RowF w5.heap.size (O.take n ++ [f] ++ O.drop n)] := ⟨_, rfl⟩
          obtain ⟨Rs, hRs⟩ := hRL
          refine K3.wp_region_rel2 w5.heap.size (Nat.le_refl _) (K3.RL Rs) [1, 2, 2, 2, 1, 2, 1, 1, 2, 2, 2, 1, 1] [1, 1, 1, 1, 1, 1, 1, 2, 1, 1, 1, 2, 1] [[], [], [], [], [], [], [], [0, 4, 6], [], [], [], [0, 4, 6, 7], []] (by kernel_rfl) (by kernel_rfl) (K3.RL.st1 (by rw [hRs]; exact K3.st1_cons (NewE.st1 _) (K3.st1_cons (K3.PureV.st1 _) (K3.st1_cons (K3.PureV.st1 _) (K3.st1_cons (K3.PureV.st1 _) (K3.st1_cons (RowF.st1 _ _) (K3.st1_cons (K3.PureV.st1 _) (K3.st1_cons (K3.NewB.st1 _ _ _) (K3.st1_cons (RowF.st1 _ _) (K3.st1_cons (K3.PureV.st1 _) (K3.st1_cons (K3.PureV.st1 _) (K3.st1_cons (K3.PureV.st1 _) (K3.st1_cons (RowF.st1 _ _) (K3.st1_cons (RowF.st1 _ _) (K3.st1_nil))))))))))))))) (K3.RL.st2 (by rw [hRs]; exact K3.st2_skip (K3.st2_cons (K3.PureV.st2 _ _ _) (K3.st2_cons (K3.PureV.st2 _ _ _) (K3.st2_cons (K3.PureV.st2 _ _ _) (K3.st2_skip (K3.st2_cons (K3.PureV.st2 _ _ _) (K3.st2_skip (K3.st2_skip (K3.st2_cons (K3.PureV.st2 _ _ _) (K3.st2_cons (K3.PureV.st2 _ _ _) (K3.st2_cons (K3.PureV.st2 _ _ _) (K3.st2_skip (K3.st2_skip (K3.st2_nil))))))))))))))) ?_ ?_ ?_
          · intro i o d hi hd
            have hmem := List.mem_of_getElem? hi
            simp only [List.mem_cons, List.not_mem_nil, or_false] at hmem
            rcases hmem with rfl | rfl | rfl | rfl | rfl | rfl | rfl | rfl | rfl | rfl | rfl | rfl | rfl <;> simp at hd <;> (subst hd; simp)
          · refine K3.rel_start (Φ := K3.Hop _ _ _ _ _ _ _) ?_
            refine K3.rel_cons (Φ := K3.Hop _ _ _ _ _ _ _) (k := 0) ?_ ?_
            · intro fa fw hfB hfN hfE hfk hft
              rw [hRs]
              refine K3.hop_plain rfl ?_
              have kc : ∀ v, fa.eval (.const v) = v := fun _ => rfl
              generalize fa.eval = ρ at *
              exact K3.out_run (v := .slice (some ⟨fw.heap.size, 0, none⟩) 0 0) (w' := fw.alloc (.cells #[] 44)) (by simp [execOp, kc, go_sem]) ⟨⟨_, rfl, hfN, heap_alloc_new _ _⟩, (Below.refl _ _).alloc (Nat.le_refl _) _⟩
            refine K3.rel_cons (Φ := K3.Hop _ _ _ _ _ _ _) (k := 1) ?_ ?_
            · intro fa fw hfB hfN hfE hfk hft
              have k3 : fa.eval (.tmp 3) = .slice ep ln ec := hft 3 (K3.mem_looks (by kernel_rfl)) (K3.noneed (by kernel_rfl))
              rw [hRs]
              refine K3.hop_plain rfl ?_
              refine K3.out_move rfl ?_
              exact ⟨k3, Below.refl _ _⟩
            refine K3.rel_cons (Φ := K3.Hop _ _ _ _ _ _ _) (k := 2) ?_ ?_
            · intro fa fw hfB hfN hfE hfk hft
              have k6 : fa.eval (.tmp 6) = .int .i64 n := hft 6 (K3.mem_looks (by kernel_rfl)) (K3.noneed (by kernel_rfl))
              rw [hRs]
              refine K3.hop_plain rfl ?_
              refine K3.out_move rfl ?_
              exact ⟨k6, Below.refl _ _⟩
            refine K3.rel_cons (Φ := K3.Hop _ _ _ _ _ _ _) (k := 3) ?_ ?_
            · intro fa fw hfB hfN hfE hfk hft
              have k32 : fa.eval (.tmp 32) = (.slice ep ln ec) := by have := hfk 1 (K3.mem_needs (by kernel_rfl)) _ rfl; rw [hRs] at this; exact this
              have k33 : fa.eval (.tmp 33) = (.int .i64 n) := by have := hfk 2 (K3.mem_needs (by kernel_rfl)) _ rfl; rw [hRs] at this; exact this
              rw [hRs]
              refine K3.hop_plain rfl ?_
              have hr := Hvt.out fw
              exact K3.out_run (v := vt) (w' := fw) (by generalize fa.eval = ρ at *; simp [execOp, k32, k33, run_sliceAt 22 44 Tryz.underlying22, hr, go_sem]) ⟨rfl, Below.refl _ _⟩
            refine K3.rel_cons (Φ := K3.Hop _ _ _ _ _ _ _) (k := 4) ?_ ?_
            · intro fa fw hfB hfN hfE hfk hft
              have k31 : (NewE w5.heap.size) (fa.eval (.tmp 31)) fw := by have := hfk 0 (K3.mem_needs (by kernel_rfl)) _ rfl; rw [hRs] at this; exact this
              have k34 : fa.eval (.tmp 34) = (vt) := by have := hfk 3 (K3.mem_needs (by kernel_rfl)) _ rfl; rw [hRs] at this; exact this
              rw [hRs]
              refine K3.hop_plain rfl ?_
              obtain ⟨B0, hb1, hb2, hb3⟩ := k31
              obtain ⟨v', w', hr, ho, hB'⟩ := run_append_first_gen eltF fw w5.heap.size B0 _ (O.take n) hb3 hb2 (hct.below hfB) (by rw [List.length_take]; omega) hfN
              exact out_append_k8 (.tmp 31) (.tmp 34) 22 rfl hb1 k34 hr ⟨(show RowF w5.heap.size (O.take n) v' w' from ⟨ho⟩), hB'⟩
            refine K3.rel_cons (Φ := K3.Hop _ _ _ _ _ _ _) (k := 5) ?_ ?_
            · intro fa fw hfB hfN hfE hfk hft
              have k5 : fa.eval (.tmp 5) = .pointer (some ⟨bx, 0, none⟩) := hft 5 (K3.mem_looks (by kernel_rfl)) (K3.noneed (by kernel_rfl))
              rw [hRs]
              refine K3.hop_plain rfl ?_
              exact out_load3 rfl k5 (HFl.out fw hfB) ⟨rfl, Below.refl _ _⟩
            refine K3.rel_cons (Φ := K3.Hop _ _ _ _ _ _ _) (k := 6) ?_ ?_
            · intro fa fw hfB hfN hfE hfk hft
              have k36 : fa.eval (.tmp 36) = (.agg (filV f).toArray) := by have := hfk 5 (K3.mem_needs (by kernel_rfl)) _ rfl; rw [hRs] at this; exact this
              rw [hRs]
              refine K3.hop_plain rfl ?_
              exact out_bslice8 rfl (by simp only [List.map_toArray, List.map_cons, List.map_nil, k36]) (slice_one eltF fw f (filV_len f) (by decide)) ⟨⟨_, rfl, heap_alloc_new _ _⟩, (Below.refl _ _).alloc (Nat.le_refl _) _⟩
            refine K3.rel_cons (Φ := K3.Hop _ _ _ _ _ _ _) (k := 7) ?_ ?_
            · intro fa fw hfB hfN hfE hfk hft
              have k35 : (RowF w5.heap.size (O.take n)) (fa.eval (.tmp 35)) fw := by have := hfk 4 (K3.mem_needs (by kernel_rfl)) _ rfl; rw [hRs] at this; exact this
              have k37 : (K3.NewB 1 (filV f).toArray 44) (fa.eval (.tmp 37)) fw := by have := hfk 6 (K3.mem_needs (by kernel_rfl)) _ rfl; rw [hRs] at this; exact this
              rw [hRs]
              refine K3.hop_plain rfl ?_
              obtain ⟨ho0⟩ := k35
              obtain ⟨B1, hb1, hb2⟩ := k37
              obtain ⟨v', w', hr, ho, hg⟩ := run_append_gen eltF fw w5.heap.size _ _ _ _ [f] ho0 (LAt.block (filV_len f) rfl hb2) (by simp only [List.length_append, List.length_take, List.length_drop, List.length_cons, List.length_nil]; omega) (by unfold maxLen; simp only [List.length_append, List.length_take, List.length_drop, List.length_cons, List.length_nil]; omega) hfN
              refine out_append_k8 (.tmp 35) (.tmp 37) 22 rfl rfl hb1 hr ⟨(show RowF w5.heap.size (O.take n ++ [f]) v' w' from ⟨by rw [List.length_append, LF_app]; exact ho⟩), ?_⟩
              exact (Below.refl _ _).grown hg hfN (fun k hk => (ho0.lt k hk).1)
            refine K3.rel_cons (Φ := K3.Hop _ _ _ _ _ _ _) (k := 8) ?_ ?_
            · intro fa fw hfB hfN hfE hfk hft
              have k3 : fa.eval (.tmp 3) = .slice ep ln ec := hft 3 (K3.mem_looks (by kernel_rfl)) (K3.noneed (by kernel_rfl))
              rw [hRs]
              refine K3.hop_plain rfl ?_
              refine K3.out_move rfl ?_
              exact ⟨k3, Below.refl _ _⟩
            refine K3.rel_cons (Φ := K3.Hop _ _ _ _ _ _ _) (k := 9) ?_ ?_
            · intro fa fw hfB hfN hfE hfk hft
              have k6 : fa.eval (.tmp 6) = .int .i64 n := hft 6 (K3.mem_looks (by kernel_rfl)) (K3.noneed (by kernel_rfl))
              rw [hRs]
              refine K3.hop_plain rfl ?_
              refine K3.out_move rfl ?_
              exact ⟨k6, Below.refl _ _⟩
            refine K3.rel_cons (Φ := K3.Hop _ _ _ _ _ _ _) (k := 10) ?_ ?_
            · intro fa fw hfB hfN hfE hfk hft
              have k39 : fa.eval (.tmp 39) = (.slice ep ln ec) := by have := hfk 8 (K3.mem_needs (by kernel_rfl)) _ rfl; rw [hRs] at this; exact this
              have k40 : fa.eval (.tmp 40) = (.int .i64 n) := by have := hfk 9 (K3.mem_needs (by kernel_rfl)) _ rfl; rw [hRs] at this; exact this
              rw [hRs]
              refine K3.hop_plain rfl ?_
              have hr := Hvd.out fw
              exact K3.out_run (v := vd) (w' := fw) (by generalize fa.eval = ρ at *; simp [execOp, k39, k40, run_sliceAt 22 44 Tryz.underlying22, hr, go_sem]) ⟨rfl, Below.refl _ _⟩
            refine K3.rel_cons (Φ := K3.Hop _ _ _ _ _ _ _) (k := 11) ?_ ?_
            · intro fa fw hfB hfN hfE hfk hft
              have k38 : (RowF w5.heap.size (O.take n ++ [f])) (fa.eval (.tmp 38)) fw := by have := hfk 7 (K3.mem_needs (by kernel_rfl)) _ rfl; rw [hRs] at this; exact this
              have k41 : fa.eval (.tmp 41) = (vd) := by have := hfk 10 (K3.mem_needs (by kernel_rfl)) _ rfl; rw [hRs] at this; exact this
              rw [hRs]
              refine K3.hop_plain rfl ?_
              obtain ⟨ho0⟩ := k38
              obtain ⟨v', w', hr, ho, hg⟩ := run_append_gen eltF fw w5.heap.size _ _ _ _ (O.drop n) ho0 (hcd.below hfB) (by simp only [List.length_append, List.length_take, List.length_drop, List.length_cons, List.length_nil]; omega) (by unfold maxLen; simp only [List.length_append, List.length_take, List.length_drop, List.length_cons, List.length_nil]; omega) hfN
              refine out_append_k8 (.tmp 38) (.tmp 41) 22 rfl rfl k41 hr ⟨(show RowF w5.heap.size (O.take n ++ [f] ++ O.drop n) v' w' from ⟨by rw [List.length_append, LF_app]; exact ho⟩), ?_⟩
              exact (Below.refl _ _).grown hg hfN (fun k hk => (ho0.lt k hk).1)
            refine K3.rel_cons (Φ := K3.Hop _ _ _ _ _ _ _) (k := 12) ?_ ?_
            · intro fa fw hfB hfN hfE hfk hft
              have k42 : (RowF w5.heap.size (O.take n ++ [f] ++ O.drop n)) (fa.eval (.tmp 42)) fw := by have := hfk 11 (K3.mem_needs (by kernel_rfl)) _ rfl; rw [hRs] at this; exact this
              rw [hRs]
              refine K3.hop_plain rfl ?_
              refine K3.out_assign rfl ?_
              exact ⟨k42, Below.refl _ _⟩
            exact K3.rel_nil
          · intro fa fw hfB hfy hff hfs hfd
            rw [hRs] at hfy
            have k3 : RowF w5.heap.size (O.take n ++ [f] ++ O.drop n) (fa.tmps.getD 3 undef) fw := hfy 12 _ rfl (K3.unkilled (by decide))
            have HBf := Lib.hid (show Below w.heap.size w fw from Hb5.out.drew.trans (hfB.mono Hb5.out.size))
            have e := K3.rel_frame [31, 32, 33, 34, 35, 36, 37, 38, 39, 40, 41, 42, 3] (by kernel_rfl) hff hfs hfd
            simp only [List.foldl] at e
            clear hfy hff hfs hfd 
            generalize fa.tmps.getD 31 undef = x31 at e
            generalize fa.tmps.getD 32 undef = x32 at e
            generalize fa.tmps.getD 33 undef = x33 at e
            generalize fa.tmps.getD 34 undef = x34 at e
            generalize fa.tmps.getD 35 undef = x35 at e
            generalize fa.tmps.getD 36 undef = x36 at e
            generalize fa.tmps.getD 37 undef = x37 at e
            generalize fa.tmps.getD 38 undef = x38 at e
            generalize fa.tmps.getD 39 undef = x39 at e
            generalize fa.tmps.getD 40 undef = x40 at e
            generalize fa.tmps.getD 41 undef = x41 at e
            generalize fa.tmps.getD 42 undef = x42 at e
            generalize fa.tmps.getD 3 undef = x3 at e k3
            simp [List.setIfInBounds_toArray, List.set_cons_succ, List.set_cons_zero] at e
            subst e
            have Hown := Lib.hid (World.ownsRow.mono k3.own Hb5.out.size)
            clear k3 hfB
            go_wp2_with fail
            go_roundg (gko - 1)
            case measure => have := Hig.out; omega
            case rel =>
              have hig := Hig.out
              exact ⟨i + 1, _, by omega, by go_num, Hperm.out, Hins.out, Hown.out, HBf.out⟩
        · obtain ⟨m, hm⟩ : ∃ m, n = m + 1 := ⟨n - 1, by omega⟩
          have hmL : m < O.length := by have := Hln.out; omega
          obtain ⟨g3, o3, rfl, hg3, hcap3, hmax3, hcell3⟩ := lat_at HLat8.out (by have := Hln.out; omega)
          have hc3 := hcell3 m hmL 0 (.string O[m].1) rfl
          rw [Nat.add_zero] at hc3
          have hx1 : O[m].1.size ≤ 1073741824 := HOz.out _ (List.getElem_mem hmL)
          have HQ1 := Lib.hid (fun w1 (h1 : Below wr.heap.size wr w1) => (by have h := ((HBw.out.trans (h1.mono HBw.out.size)).cell (p := ⟨g3, o3 + m * 2, none⟩) hg3).trans hc3; simp [go_sem, h] : (loadVar 9 ⟨g3, o3 + m * 2, none⟩).run Tryz.prog w1 = .ok (.string O[m].1) w1))
          have HQ2 := Lib.hid (fun w1 (h1 : Below wr.heap.size wr w1) => (by have h := (HBx8.out.below (HBw.out.trans (h1.mono HBw.out.size))).r 0 (.string f.1) rfl; simp [go_sem, h] : (loadVar 9 ⟨bx, 0, none⟩).run Tryz.prog w1 = .ok (.string f.1) w1))
          have HC := Lib.hid (fun w1 (h1 : Below wr.heap.size wr w1) => (refCmp_any O[m].1 f.1 w1 hx1 hfz).mono (fun e w2 hh => (⟨hh.1, h1.trans (hh.2.mono h1.size)⟩ : e = .returned (.int .i64 (cmpP O[m].1 f.1)) ∧ Below wr.heap.size wr w2)))
          obtain ⟨od, hod⟩ : ∃ od, od = cmpP O[m].1 f.1 := ⟨_, rfl⟩
          rw [← hod] at HC
          have Hod := Lib.hid hod
          obtain ⟨x, hx⟩ : ∃ x, x = O[m].1 := ⟨_, rfl⟩
          rw [← hx] at HQ1 HC
          obtain ⟨z, hz⟩ : ∃ z, z = f.1 := ⟨_, rfl⟩
          rw [← hz] at HQ2 HC
          have hix : (n : Int) - 1 = (m : Int) := by omega
          have hmI : (m : Int) < (ln : Int) := by have := Hln.out; omega
          have hd0 : decide (0 < n) = true := decide_eq_true (by omega)
          have hd0I : decide ((0 : Int) < (n : Int)) = true := decide_eq_true (by omega)
          have Hm := Lib.hid hm
          clear hcell3 hc3 hx1 hod hx hz hm h0
          by_cases hgt : 0 < od
          · go_wp2_with fail
            refine wp_region_class (Below wr.heap.size wr) (by kernel_rfl) (by kernel_rfl) (Below.refl _ _).drew ?_
            repeat (go_big_quiet_step (first | (intro hh; with_reducible exact HC.out _ hh) | (intro _; rfl)))
            refine wpQuiet_load_at rfl 9 (.tmp 22) rfl ⟨g3, o3 + m * 2, none⟩ rfl (.string x) HQ1.out ?_
            simp only [Act.put, List.setIfInBounds_toArray, List.set_cons_succ, List.set_cons_zero]
            repeat (go_big_quiet_step (first | (intro hh; with_reducible exact HC.out _ hh) | (intro _; rfl)))
            refine wpQuiet_load_at rfl 9 (.tmp 24) rfl ⟨bx, 0, none⟩ rfl (.string z) HQ2.out ?_
            simp only [Act.put, List.setIfInBounds_toArray, List.set_cons_succ, List.set_cons_zero]
            repeat (go_big_quiet_step (first | (intro hh; with_reducible exact HC.out _ hh) | (intro _; rfl)))
            refine wpQuiet_nil ?_
            intro w5 hBq
            have Hb85 := Lib.hid (HBw.out.trans (hBq.mono HBw.out.size))
            clear hBq
            go_wp2_with fail
            go_roundg (gk - 1)
            case measure => have := Hm.out; have := Hng.out; omega
            case rel => exact ⟨m, by have := Hm.out; have := Hng.out; omega, by go_num, by omega, fun k h1 h2 => by
              by_cases hk : k = m
              · subst hk; rw [← Hod.out]; exact hgt
              · exact Hgt0.out k (by have := Hm.out; omega) h2, Hb85.out⟩
          · have Hins := Lib.hid (ins_sorted Hs.out hn (fun m2 h h2 => by
              have e : m2 = m := by have := Hm.out; omega
              subst e
              rw [← Hod.out]; omega) Hgt0.out)
            have Hperm := Lib.hid (show (O.take n ++ [f] ++ O.drop n).Perm (a.take (i + 1)) by rw [Htk.out]; exact ins_perm n Hp.out)
            go_wp2_with fail
            refine wp_region_class (Below wr.heap.size wr) (by kernel_rfl) (by kernel_rfl) (Below.refl _ _).drew ?_
            repeat (go_big_quiet_step (first | (intro hh; with_reducible exact HC.out _ hh) | (intro _; rfl)))
            refine wpQuiet_load_at rfl 9 (.tmp 22) rfl ⟨g3, o3 + m * 2, none⟩ rfl (.string x) HQ1.out ?_
            simp only [Act.put, List.setIfInBounds_toArray, List.set_cons_succ, List.set_cons_zero]
            repeat (go_big_quiet_step (first | (intro hh; with_reducible exact HC.out _ hh) | (intro _; rfl)))
            refine wpQuiet_load_at rfl 9 (.tmp 24) rfl ⟨bx, 0, none⟩ rfl (.string z) HQ2.out ?_
            simp only [Act.put, List.setIfInBounds_toArray, List.set_cons_succ, List.set_cons_zero]
            repeat (go_big_quiet_step (first | (intro hh; with_reducible exact HC.out _ hh) | (intro _; rfl)))
            refine wpQuiet_nil ?_
            intro w5 hBq
            have Hb85 := Lib.hid (HBw.out.trans (hBq.mono HBw.out.size))
            clear hBq
            have Hb5 := Lib.hid (HB8.out.trans (Hb85.out.mono HB8.out.size))
            have Hown5 := Lib.hid (gen_own_below Hown8.out Hb85.out)
            have HBx5 := Lib.hid (HBx8.out.below Hb85.out)
            go_wp2_with fail
            have hd5 : Below w5.heap.size w5 w5.drew := (Below.refl _ _).drew
            obtain ⟨vt, hvt, hct⟩ := gen_take eltF (LAt.own (e := 44) (fun x _ => filV_len x) Hown5.out) n hn
            obtain ⟨vd, hvd, hcd⟩ := gen_drop eltF (LAt.own (e := 44) (fun x _ => filV_len x) Hown5.out) n hn
            have Hvt := Lib.hid hvt
            have Hvd := Lib.hid hvd
            replace hct := hct.below hd5
            replace hcd := hcd.below hd5
            have HFl := Lib.hid (fun wx (hx : Below w5.drew.heap.size w5.drew wx) => run_loadVar_mid (P := Tryz.prog) wx bx 0 44 (filV f) _ (fun j y hy => by
              have h9 := ((HBx5.out.below hd5).below hx).r j y hy
              rw [Nat.zero_add]; exact h9) Tryz.underlying44 rfl (by rw [filV_len]; kernel_rfl))
            clear hvt hvd
            have hRL : ∃ Rs : List (Value → World → Prop), Rs = [NewE w5.heap.size,
                K3.PureV (.slice (some ⟨g3, o3, none⟩) ln ec),
                K3.PureV (.int .i64 n),
                K3.PureV (vt),
                RowF w5.heap.size (O.take n),
                K3.PureV (.agg (filV f).toArray),
                K3.NewB 1 (filV f).toArray 44,
                RowF w5.heap.size (O.take n ++ [f]),
                K3.PureV (.slice (some ⟨g3, o3, none⟩) ln ec),
                K3.PureV (.int .i64 n),
                K3.PureV (vd),
                RowF w5.heap.size (O.take n ++ [f] ++ O.drop n),
                RowF w5.heap.size (O.take n ++ [f] ++ O.drop n)] := ⟨_, rfl⟩
            obtain ⟨Rs, hRs⟩ := hRL
            refine K3.wp_region_rel2 w5.heap.size (Nat.le_refl _) (K3.RL Rs) [1, 2, 2, 2, 1, 2, 1, 1, 2, 2, 2, 1, 1] [1, 1, 1, 1, 1, 1, 1, 2, 1, 1, 1, 2, 1] [[], [], [], [], [], [], [], [0, 4, 6], [], [], [], [0, 4, 6, 7], []] (by kernel_rfl) (by kernel_rfl) (K3.RL.st1 (by rw [hRs]; exact K3.st1_cons (NewE.st1 _) (K3.st1_cons (K3.PureV.st1 _) (K3.st1_cons (K3.PureV.st1 _) (K3.st1_cons (K3.PureV.st1 _) (K3.st1_cons (RowF.st1 _ _) (K3.st1_cons (K3.PureV.st1 _) (K3.st1_cons (K3.NewB.st1 _ _ _) (K3.st1_cons (RowF.st1 _ _) (K3.st1_cons (K3.PureV.st1 _) (K3.st1_cons (K3.PureV.st1 _) (K3.st1_cons (K3.PureV.st1 _) (K3.st1_cons (RowF.st1 _ _) (K3.st1_cons (RowF.st1 _ _) (K3.st1_nil))))))))))))))) (K3.RL.st2 (by rw [hRs]; exact K3.st2_skip (K3.st2_cons (K3.PureV.st2 _ _ _) (K3.st2_cons (K3.PureV.st2 _ _ _) (K3.st2_cons (K3.PureV.st2 _ _ _) (K3.st2_skip (K3.st2_cons (K3.PureV.st2 _ _ _) (K3.st2_skip (K3.st2_skip (K3.st2_cons (K3.PureV.st2 _ _ _) (K3.st2_cons (K3.PureV.st2 _ _ _) (K3.st2_cons (K3.PureV.st2 _ _ _) (K3.st2_skip (K3.st2_skip (K3.st2_nil))))))))))))))) ?_ ?_ ?_
            · intro i o d hi hd
              have hmem := List.mem_of_getElem? hi
              simp only [List.mem_cons, List.not_mem_nil, or_false] at hmem
              rcases hmem with rfl | rfl | rfl | rfl | rfl | rfl | rfl | rfl | rfl | rfl | rfl | rfl | rfl <;> simp at hd <;> (subst hd; simp)
            · refine K3.rel_start (Φ := K3.Hop _ _ _ _ _ _ _) ?_
              refine K3.rel_cons (Φ := K3.Hop _ _ _ _ _ _ _) (k := 0) ?_ ?_
              · intro fa fw hfB hfN hfE hfk hft
                rw [hRs]
                refine K3.hop_plain rfl ?_
                have kc : ∀ v, fa.eval (.const v) = v := fun _ => rfl
                generalize fa.eval = ρ at *
                exact K3.out_run (v := .slice (some ⟨fw.heap.size, 0, none⟩) 0 0) (w' := fw.alloc (.cells #[] 44)) (by simp [execOp, kc, go_sem]) ⟨⟨_, rfl, hfN, heap_alloc_new _ _⟩, (Below.refl _ _).alloc (Nat.le_refl _) _⟩
              refine K3.rel_cons (Φ := K3.Hop _ _ _ _ _ _ _) (k := 1) ?_ ?_
              · intro fa fw hfB hfN hfE hfk hft
                have k3 : fa.eval (.tmp 3) = .slice (some ⟨g3, o3, none⟩) ln ec := hft 3 (K3.mem_looks (by kernel_rfl)) (K3.noneed (by kernel_rfl))
                rw [hRs]
                refine K3.hop_plain rfl ?_
                refine K3.out_move rfl ?_
                exact ⟨k3, Below.refl _ _⟩
              refine K3.rel_cons (Φ := K3.Hop _ _ _ _ _ _ _) (k := 2) ?_ ?_
              · intro fa fw hfB hfN hfE hfk hft
                have k6 : fa.eval (.tmp 6) = .int .i64 n := hft 6 (K3.mem_looks (by kernel_rfl)) (K3.noneed (by kernel_rfl))
                rw [hRs]
                refine K3.hop_plain rfl ?_
                refine K3.out_move rfl ?_
                exact ⟨k6, Below.refl _ _⟩
              refine K3.rel_cons (Φ := K3.Hop _ _ _ _ _ _ _) (k := 3) ?_ ?_
              · intro fa fw hfB hfN hfE hfk hft
                have k32 : fa.eval (.tmp 32) = (.slice (some ⟨g3, o3, none⟩) ln ec) := by have := hfk 1 (K3.mem_needs (by kernel_rfl)) _ rfl; rw [hRs] at this; exact this
                have k33 : fa.eval (.tmp 33) = (.int .i64 n) := by have := hfk 2 (K3.mem_needs (by kernel_rfl)) _ rfl; rw [hRs] at this; exact this
                rw [hRs]
                refine K3.hop_plain rfl ?_
                have hr := Hvt.out fw
                exact K3.out_run (v := vt) (w' := fw) (by generalize fa.eval = ρ at *; simp [execOp, k32, k33, run_sliceAt 22 44 Tryz.underlying22, hr, go_sem]) ⟨rfl, Below.refl _ _⟩
              refine K3.rel_cons (Φ := K3.Hop _ _ _ _ _ _ _) (k := 4) ?_ ?_
              · intro fa fw hfB hfN hfE hfk hft
                have k31 : (NewE w5.heap.size) (fa.eval (.tmp 31)) fw := by have := hfk 0 (K3.mem_needs (by kernel_rfl)) _ rfl; rw [hRs] at this; exact this
                have k34 : fa.eval (.tmp 34) = (vt) := by have := hfk 3 (K3.mem_needs (by kernel_rfl)) _ rfl; rw [hRs] at this; exact this
                rw [hRs]
                refine K3.hop_plain rfl ?_
                obtain ⟨B0, hb1, hb2, hb3⟩ := k31
                obtain ⟨v', w', hr, ho, hB'⟩ := run_append_first_gen eltF fw w5.heap.size B0 _ (O.take n) hb3 hb2 (hct.below hfB) (by rw [List.length_take]; omega) hfN
                exact out_append_k8 (.tmp 31) (.tmp 34) 22 rfl hb1 k34 hr ⟨(show RowF w5.heap.size (O.take n) v' w' from ⟨ho⟩), hB'⟩
              refine K3.rel_cons (Φ := K3.Hop _ _ _ _ _ _ _) (k := 5) ?_ ?_
              · intro fa fw hfB hfN hfE hfk hft
                have k5 : fa.eval (.tmp 5) = .pointer (some ⟨bx, 0, none⟩) := hft 5 (K3.mem_looks (by kernel_rfl)) (K3.noneed (by kernel_rfl))
                rw [hRs]
                refine K3.hop_plain rfl ?_
                exact out_load3 rfl k5 (HFl.out fw hfB) ⟨rfl, Below.refl _ _⟩
              refine K3.rel_cons (Φ := K3.Hop _ _ _ _ _ _ _) (k := 6) ?_ ?_
              · intro fa fw hfB hfN hfE hfk hft
                have k36 : fa.eval (.tmp 36) = (.agg (filV f).toArray) := by have := hfk 5 (K3.mem_needs (by kernel_rfl)) _ rfl; rw [hRs] at this; exact this
                rw [hRs]
                refine K3.hop_plain rfl ?_
                exact out_bslice8 rfl (by simp only [List.map_toArray, List.map_cons, List.map_nil, k36]) (slice_one eltF fw f (filV_len f) (by decide)) ⟨⟨_, rfl, heap_alloc_new _ _⟩, (Below.refl _ _).alloc (Nat.le_refl _) _⟩
              refine K3.rel_cons (Φ := K3.Hop _ _ _ _ _ _ _) (k := 7) ?_ ?_
              · intro fa fw hfB hfN hfE hfk hft
                have k35 : (RowF w5.heap.size (O.take n)) (fa.eval (.tmp 35)) fw := by have := hfk 4 (K3.mem_needs (by kernel_rfl)) _ rfl; rw [hRs] at this; exact this
                have k37 : (K3.NewB 1 (filV f).toArray 44) (fa.eval (.tmp 37)) fw := by have := hfk 6 (K3.mem_needs (by kernel_rfl)) _ rfl; rw [hRs] at this; exact this
                rw [hRs]
                refine K3.hop_plain rfl ?_
                obtain ⟨ho0⟩ := k35
                obtain ⟨B1, hb1, hb2⟩ := k37
                obtain ⟨v', w', hr, ho, hg⟩ := run_append_gen eltF fw w5.heap.size _ _ _ _ [f] ho0 (LAt.block (filV_len f) rfl hb2) (by simp only [List.length_append, List.length_take, List.length_drop, List.length_cons, List.length_nil]; omega) (by unfold maxLen; simp only [List.length_append, List.length_take, List.length_drop, List.length_cons, List.length_nil]; omega) hfN
                refine out_append_k8 (.tmp 35) (.tmp 37) 22 rfl rfl hb1 hr ⟨(show RowF w5.heap.size (O.take n ++ [f]) v' w' from ⟨by rw [List.length_append, LF_app]; exact ho⟩), ?_⟩
                exact (Below.refl _ _).grown hg hfN (fun k hk => (ho0.lt k hk).1)
              refine K3.rel_cons (Φ := K3.Hop _ _ _ _ _ _ _) (k := 8) ?_ ?_
              · intro fa fw hfB hfN hfE hfk hft
                have k3 : fa.eval (.tmp 3) = .slice (some ⟨g3, o3, none⟩) ln ec := hft 3 (K3.mem_looks (by kernel_rfl)) (K3.noneed (by kernel_rfl))
                rw [hRs]
                refine K3.hop_plain rfl ?_
                refine K3.out_move rfl ?_
                exact ⟨k3, Below.refl _ _⟩
              refine K3.rel_cons (Φ := K3.Hop _ _ _ _ _ _ _) (k := 9) ?_ ?_
              · intro fa fw hfB hfN hfE hfk hft
                have k6 : fa.eval (.tmp 6) = .int .i64 n := hft 6 (K3.mem_looks (by kernel_rfl)) (K3.noneed (by kernel_rfl))
                rw [hRs]
                refine K3.hop_plain rfl ?_
                refine K3.out_move rfl ?_
                exact ⟨k6, Below.refl _ _⟩
              refine K3.rel_cons (Φ := K3.Hop _ _ _ _ _ _ _) (k := 10) ?_ ?_
              · intro fa fw hfB hfN hfE hfk hft
                have k39 : fa.eval (.tmp 39) = (.slice (some ⟨g3, o3, none⟩) ln ec) := by have := hfk 8 (K3.mem_needs (by kernel_rfl)) _ rfl; rw [hRs] at this; exact this
                have k40 : fa.eval (.tmp 40) = (.int .i64 n) := by have := hfk 9 (K3.mem_needs (by kernel_rfl)) _ rfl; rw [hRs] at this; exact this
                rw [hRs]
                refine K3.hop_plain rfl ?_
                have hr := Hvd.out fw
                exact K3.out_run (v := vd) (w' := fw) (by generalize fa.eval = ρ at *; simp [execOp, k39, k40, run_sliceAt 22 44 Tryz.underlying22, hr, go_sem]) ⟨rfl, Below.refl _ _⟩
              refine K3.rel_cons (Φ := K3.Hop _ _ _ _ _ _ _) (k := 11) ?_ ?_
              · intro fa fw hfB hfN hfE hfk hft
                have k38 : (RowF w5.heap.size (O.take n ++ [f])) (fa.eval (.tmp 38)) fw := by have := hfk 7 (K3.mem_needs (by kernel_rfl)) _ rfl; rw [hRs] at this; exact this
                have k41 : fa.eval (.tmp 41) = (vd) := by have := hfk 10 (K3.mem_needs (by kernel_rfl)) _ rfl; rw [hRs] at this; exact this
                rw [hRs]
                refine K3.hop_plain rfl ?_
                obtain ⟨ho0⟩ := k38
                obtain ⟨v', w', hr, ho, hg⟩ := run_append_gen eltF fw w5.heap.size _ _ _ _ (O.drop n) ho0 (hcd.below hfB) (by simp only [List.length_append, List.length_take, List.length_drop, List.length_cons, List.length_nil]; omega) (by unfold maxLen; simp only [List.length_append, List.length_take, List.length_drop, List.length_cons, List.length_nil]; omega) hfN
                refine out_append_k8 (.tmp 38) (.tmp 41) 22 rfl rfl k41 hr ⟨(show RowF w5.heap.size (O.take n ++ [f] ++ O.drop n) v' w' from ⟨by rw [List.length_append, LF_app]; exact ho⟩), ?_⟩
                exact (Below.refl _ _).grown hg hfN (fun k hk => (ho0.lt k hk).1)
              refine K3.rel_cons (Φ := K3.Hop _ _ _ _ _ _ _) (k := 12) ?_ ?_
              · intro fa fw hfB hfN hfE hfk hft
                have k42 : (RowF w5.heap.size (O.take n ++ [f] ++ O.drop n)) (fa.eval (.tmp 42)) fw := by have := hfk 11 (K3.mem_needs (by kernel_rfl)) _ rfl; rw [hRs] at this; exact this
                rw [hRs]
                refine K3.hop_plain rfl ?_
                refine K3.out_assign rfl ?_
                exact ⟨k42, Below.refl _ _⟩
              exact K3.rel_nil
            · intro fa fw hfB hfy hff hfs hfd
              rw [hRs] at hfy
              have k3 : RowF w5.heap.size (O.take n ++ [f] ++ O.drop n) (fa.tmps.getD 3 undef) fw := hfy 12 _ rfl (K3.unkilled (by decide))
              have HBf := Lib.hid (show Below w.heap.size w fw from Hb5.out.drew.trans (hfB.mono Hb5.out.size))
              have e := K3.rel_frame [31, 32, 33, 34, 35, 36, 37, 38, 39, 40, 41, 42, 3] (by kernel_rfl) hff hfs hfd
              simp only [List.foldl] at e
              clear hfy hff hfs hfd 
              generalize fa.tmps.getD 31 undef = x31 at e
              generalize fa.tmps.getD 32 undef = x32 at e
              generalize fa.tmps.getD 33 undef = x33 at e
              generalize fa.tmps.getD 34 undef = x34 at e
              generalize fa.tmps.getD 35 undef = x35 at e
              generalize fa.tmps.getD 36 undef = x36 at e
              generalize fa.tmps.getD 37 undef = x37 at e
              generalize fa.tmps.getD 38 undef = x38 at e
              generalize fa.tmps.getD 39 undef = x39 at e
              generalize fa.tmps.getD 40 undef = x40 at e
              generalize fa.tmps.getD 41 undef = x41 at e
              generalize fa.tmps.getD 42 undef = x42 at e
              generalize fa.tmps.getD 3 undef = x3 at e k3
              simp [List.setIfInBounds_toArray, List.set_cons_succ, List.set_cons_zero] at e
              subst e
              have Hown := Lib.hid (World.ownsRow.mono k3.own Hb5.out.size)
              clear k3 hfB
              go_wp2_with fail
              go_roundg (gko - 1)
              case measure => have := Hig.out; omega
              case rel =>
                have hig := Hig.out
                exact ⟨i + 1, _, by omega, by go_num, Hperm.out, Hins.out, Hown.out, HBf.out⟩
    · have hnI : ¬ (i : Int) < (len : Int) := by omega
      have hO : a.take i = a := List.take_of_length_le (by have := Hn.out; omega)
      have Hp2 := Lib.hid (show O.Perm a by rw [← hO]; exact Hp.out)
      clear hO Hp
      go_wp2_with fail
      go_ret
      exact ⟨_, rfl, O, Hp2.out, Hs.out, Hown.out, HB.out⟩
end Go.Proofs.YtdhaanaenklleaaGreatDoor
