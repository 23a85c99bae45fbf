/- Walks: the statement HeaderBegins. -/
import Derived.Test.YtejogobhnbjpdaaGreatDoorXb
import Derived.Test.YtejogobhnbjpdaaGreatDoorXa
namespace Go.Proofs.YtejogobhnbjpdaaGreatDoor
set_option linter.unusedVariables false
set_option linter.unusedSimpArgs false
open Go.ChangeShapes Go.WideShapes Go.ChangeAt Go.RowKit

theorem ext_pre {s o : ByteArray} {e : Nat} (he : e ≤ s.size) : ((s.extract 0 e ++ (⟨#[10]⟩ : ByteArray)) ++ o).size = e + 1 + o.size ∧ byt ((s.extract 0 e ++ (⟨#[10]⟩ : ByteArray)) ++ o) e = 10 ∧ ∀ j, j < e → byt s j = byt ((s.extract 0 e ++ (⟨#[10]⟩ : ByteArray)) ++ o) j := by
  have h1 : (s.extract 0 e).size = e := by rw [ByteArray.size_extract]; omega
  have h2 : (⟨#[10]⟩ : ByteArray).size = 1 := rfl
  refine ⟨by rw [ByteArray.size_append, ByteArray.size_append, h1, h2], ?_, fun j hj => ?_⟩
  · rw [byt_app_l (by rw [ByteArray.size_append, h1, h2]; omega)]
    have := get_app_r (s.extract 0 e) ⟨#[10]⟩ 0
    rw [h1, Nat.add_zero] at this
    unfold byt; rw [this]; rfl
  · rw [byt_app_l (by rw [ByteArray.size_append, h1, h2]; omega), byt_app_l (by rw [h1]; exact hj), byt_ext he hj]
set_option maxRecDepth 100000 in
set_option maxHeartbeats 8000000 in
theorem begins_walk (s o : ByteArray) (w : World) (hs0 : s.size ≤ 140737488351232) (ho0 : o.size ≤ 140737488351232) (hTab : Tabs w) : Calls Tryz.prog 4 #[.string s, .string o] w (LawEnd w) := by
  have HA := Lib.hid (alive12_any w hTab)
  have HT := Lib.hid hTab
  clear hTab
  by_cases hbig : 1024 < s.size ∨ 1024 < o.size
  · rcases (by omega : 1024 < s.size ∨ (¬ 1024 < s.size ∧ 1024 < o.size)) with hb | ⟨hb, hb2⟩
    · have hbI : (1024 : Int) < (s.size : Int) := by omega
      clear hbig
      go_enter Tryz.func4, Tryz.ntmps4
      go_wp2_with fail
      refine HA.out.mono ?_
      rintro r w1 ⟨rfl, hB⟩
      have HB := Lib.hid hB
      clear hB
      go_wp2_with fail
      go_ret
      exact ⟨rfl, HB.out⟩
    · have hbI : ¬ (1024 : Int) < (s.size : Int) := by omega
      have hbI2 : (1024 : Int) < (o.size : Int) := by omega
      clear hbig
      go_enter Tryz.func4, Tryz.ntmps4
      go_wp2_with fail
      refine HA.out.mono ?_
      rintro r w1 ⟨rfl, hB⟩
      have HB := Lib.hid hB
      clear hB
      go_wp2_with fail
      go_ret
      exact ⟨rfl, HB.out⟩
  have hbI : ¬ (1024 : Int) < (s.size : Int) := by omega
  have hbI2 : ¬ (1024 : Int) < (o.size : Int) := by omega
  have hsz : s.size ≤ 1048576 := by omega
  have hPB := parse_b s hsz
  have hPS := pre_of s hsz
  have hbg := (beginR_ok hPS.e).1
  have htk := tk_some hbg
  have HPG := Lib.hid (fun (s' : ByteArray) (kk p : Nat) (x : ByteArray) (h1 : (lexL s)[(beginR (lexL s)).2.1]? = some (kk, x, p)) (h1' : (lexL s')[(beginR (lexL s)).2.1]? = some (kk, x, p)) (hx : x.size ≠ 0) (hp : p + x.size < s'.size) (hlf : byt s' (p + x.size) = 10) (hag : ∀ j, j < p + x.size → byt s j = byt s' j) => parse_begins hPS.e h1 h1' hx hp hlf hag)
  have HX := Lib.hid (fun (t : ByteArray) w1 (hz : t.size ≤ 1048576) (h : Below w.heap.size w w1) => parse_at t w1 hz (tabs_below HT.out h))
  have HLX := Lib.hid (fun (t : ByteArray) w1 (hz : t.size ≤ 1048576) (h : Below w.heap.size w w1) => lex_any t w1 hz (tabs_below HT.out h))
  have HD := Lib.hid (fun w1 => show Calls Tryz.prog 7 #[.string s] w1 (fun e w' => ∃ v, e = .returned (.tuple #[v, .int .i64 (beginR (lexL s)).2.1]) ∧ HAt w' v (parseR s) ∧ Below w1.heap.size w1 w') from dparse_any s w1 hsz)
  have HTB := Lib.hid (fun (t : ByteArray) (hz : t.size ≤ 1048576) => lexL_tkb hz)
  have htl := hPS.tl
  have HAT := Lib.hid (fun (i k p : Nat) (x : ByteArray) (h : (lexL s)[i]? = some (k, x, p)) (hx : x.size ≠ 0) => lexT_at s (skN s) [] [] i k p x (Nat.zero_le _) h hx)
  clear hPS hbig
  generalize (beginR (lexL s)).2.1 = n0 at *
  generalize parseR s = h at *
  have HS := Lib.hid (fun (u v : Value) w1 (hu : HAt w1 u h) (hv : HAt w1 v h) => sameHdr_any h h u v w1 hu hv (fun t ht => (hPB.im t ht).b) (fun t ht => (hPB.im t ht).b) (by have := hPB.il; omega) (by have := hPB.il; omega))
  rw [show sameH h h = true from decide_eq_true ⟨rfl, rfl, rfl, rfl, rfl, rfl⟩] at HS
  clear hPB
  obtain ⟨⟨kk, x, p⟩, ht0⟩ : ∃ t, tk (lexL s) n0 = t := ⟨_, rfl⟩
  rw [ht0] at htk
  have Htk := Lib.hid htk
  obtain ⟨len, hlen⟩ : ∃ len, len = (lexL s).length := ⟨_, rfl⟩
  have hll : len ≤ 4194304 := by omega
  have hnl : n0 < len := by omega
  have hpx : x.size ≠ 0 → p + x.size ≤ s.size := fun hx => by
    obtain ⟨_, g2, g3, g4⟩ := HAT.out n0 kk p x htk hx
    have h := (thing_ends g2).2 (by rw [g3]; rfl)
    rw [g3] at h
    exact h.2.1
  have HLn := Lib.hid hlen
  clear hlen htl hbg htk ht0 HAT
  have hnI : ¬ (len : Int) ≤ (n0 : Int) := by omega
  go_enter Tryz.func4, Tryz.ntmps4
  go_wp2_with fail
  refine HA.out.mono ?_
  rintro r w1 ⟨rfl, hB⟩
  have HB := Lib.hid hB
  clear hB
  go_wp2_with fail
  refine (HD.out _).mono ?_
  rintro r w2 ⟨v2, rfl, ⟨iv, ev, rfl, hi, he⟩, hB⟩
  obtain ⟨pe, ce, rfl, _⟩ := lat_shape he
  obtain ⟨pi, ci, rfl, _⟩ := lat_shape hi
  have HB2 := Lib.hid (HB.out.trans (hB.mono HB.out.size))
  have hn1 := heap_alloc_new w2 (.cells #[.string h.name, .slice pi h.imp.length ci, .string h.build, .slice pe h.emb.length ce, .int .i64 h.fault, .int .i64 h.at_] 26)
  have hb3 := (Below.refl w2.heap.size w2).alloc (Nat.le_refl _) (.cells #[.string h.name, .slice pi h.imp.length ci, .string h.build, .slice pe h.emb.length ce, .int .i64 h.fault, .int .i64 h.at_] 26)
  have Hn := Lib.hid hn1
  have HB3 := Lib.hid (HB2.out.trans (hb3.mono HB2.out.size))
  have HH := Lib.hid (show HAt _ _ h from ⟨_, _, rfl, hi.below hb3, he.below hb3⟩)
  clear hB hi he hn1 hb3 HB
  dsimp only
  go_upto_region 6 with fail
  generalize w2.alloc (.cells #[.string h.name, .slice pi h.imp.length ci, .string h.build, .slice pe h.emb.length ce, .int .i64 h.fault, .int .i64 h.at_] 26) = w3 at *
  generalize w2.heap.size = n at *
  go_wp2_with fail
  refine (HLX.out s _ hsz HB3.out).mono ?_
  rintro r w4 ⟨v, rfl, hv, hB⟩
  obtain ⟨pl, cl, rfl, hpl⟩ := hv.shape
  obtain ⟨g1, o1, rfl⟩ := hpl (by have := HLn.out; omega)
  obtain ⟨hg1, c0, c1, c2⟩ := lat_tk hv Htk.out
  have hx4 := (hB.block _ (lt_of_block Hn.out)).trans Hn.out
  have Hn4 := Lib.hid hx4
  have HB4 := Lib.hid (HB3.out.trans (hB.mono HB3.out.size))
  have HH4 := Lib.hid (HH.out.below hB)
  have HV := Lib.hid hv
  have d4 := block_cell hx4 4
  rw [← HLn.out] at HV ⊢
  clear hB hv hpl hx4
  have kx := str_lit x #[]
  have kx2 : x.toList.isEmpty = decide (x = ⟨#[]⟩) := by rw [← kx]; cases x.toList <;> rfl
  have hnd : decide (len ≤ n0) = false := decide_eq_false (by omega)
  by_cases hx : x = ⟨#[]⟩
  · rw [decide_eq_true hx] at kx kx2
    clear hx
    go_wp2_with fail
    go_ret
    exact ⟨rfl, HB4.out⟩
  rw [decide_eq_false hx] at kx kx2
  have hx0 : x.size ≠ 0 := fun e => hx (ba_ext (List.eq_nil_of_length_eq_zero (by rw [← Lib.size_eq]; exact e)))
  have hpx2 := hpx hx0
  have kf := int_eqb h.fault 1
  by_cases hf : h.fault = 1
  · rw [decide_eq_true hf] at kf
    clear hf
    go_wp2_with fail
    go_ret
    exact ⟨rfl, HB4.out⟩
  rw [decide_eq_false hf] at kf
  clear hf hpx hx
  obtain ⟨e, hen⟩ : ∃ e, e = p + x.size := ⟨_, rfl⟩
  have heI : (p : Int) + (x.size : Int) = (e : Int) := by omega
  have hes : e ≤ s.size := by omega
  obtain ⟨z1, z2, z3⟩ := ext_pre (o := o) hes
  have Hz := Lib.hid (And.intro z1 (And.intro z2 z3))
  have Hen := Lib.hid hen
  go_upto_region 9 with fail
  clear z1 z2 z3 hen d4 kf kx kx2 hnd
  go_quiet (fail)
  clear c0 c1 c2
  have hq := below_drewN (Below.refl w4.heap.size w4) nq
  have HQ := Lib.hid hq
  clear hq
  generalize w4.drewN nq = w5 at *
  have HB5 := Lib.hid (HB4.out.trans (HQ.out.mono HB4.out.size))
  have heN : (e : Int).toNat = e := by omega
  have hsl : e ≤ s.size := hes
  go_wp2_with fail
  clear heN hsl heI
  have hT : ∃ t, t = (s.extract 0 e ++ ({ data := #[10] } : ByteArray) ++ o) := ⟨_, rfl⟩
  obtain ⟨t, hT⟩ := hT
  rw [← hT] at Hz ⊢
  clear hT
  have hzt : t.size ≤ 1048576 := by have := Hz.out.1; omega
  refine (HLX.out t _ hzt HB5.out).mono ?_
  rintro r w6 ⟨u, rfl, hu, hB⟩
  obtain ⟨pu, cu, rfl, hpu⟩ := hu.shape
  have HB6 := Lib.hid (HB5.out.trans (hB.mono HB5.out.size))
  have HQ6 := Lib.hid (HQ.out.trans (hB.mono HQ.out.size))
  have HU := Lib.hid hu
  have Hpu := Lib.hid hpu
  obtain ⟨lm, hlm⟩ : ∃ lm, lm = (lexL t).length := ⟨_, rfl⟩
  rw [← hlm] at HU Hpu ⊢
  have HLM := Lib.hid hlm
  clear hB hu hpu hlm
  by_cases hml : lm ≤ n0
  · have hmI : (lm : Int) ≤ (n0 : Int) := by omega
    have hmd : decide (lm ≤ n0) = true := decide_eq_true hml
    go_upto_region 12 with fail
    go_quiet (fail)
    have HB7 := Lib.hid (below_drewN HB6.out nq)
    go_wp2_with fail
    go_ret
    exact ⟨rfl, HB7.out⟩
  have hmI : ¬ (lm : Int) ≤ (n0 : Int) := by omega
  have hmd : decide (lm ≤ n0) = false := decide_eq_false hml
  obtain ⟨g2, o2, rfl⟩ := Hpu.out (by omega)
  obtain ⟨y, hy⟩ : ∃ y, (lexL t)[n0]? = some y := ⟨_, List.getElem?_eq_getElem (by have := HLM.out; omega)⟩
  have H1 := Lib.hid (fun w1 (h1 : Below w6.heap.size w6 w1) => (HU.out.load (i := n0) hy).2 w1 h1)
  have H2 := Lib.hid (fun w1 (h1 : Below w6.heap.size w6 w1) => (HV.out.load (i := n0) Htk.out).2 w1 (HQ6.out.trans (h1.mono HQ6.out.size)))
  have heq := fun w1 => eq_tk (HTB.out t hzt _ (List.mem_of_getElem? hy)) (HTB.out s hsz _ (List.mem_of_getElem? Htk.out)) w1
  have Hy := Lib.hid hy
  clear hy
  by_cases hyx : y = (kk, x, p)
  case neg =>
    rw [decide_eq_false hyx] at heq
    clear hyx
    generalize (tkV y).toArray = xv at *
    generalize (tkV (kk, x, p)).toArray = yv at *
    go_upto_region 12 with fail
    refine wp_region_class (Below w6.heap.size w6) (by kernel_rfl) (by kernel_rfl) (Below.refl _ _).drew ?_
    repeat (go_big_quiet_step (first | (intro _; rfl)))
    refine wpQuiet_load_at rfl 35 (.tmp 72) rfl ⟨g2, o2 + n0 * 3, none⟩ rfl (.agg xv) H1.out ?_
    simp only [Act.put, List.setIfInBounds_toArray, List.set_cons_succ, List.set_cons_zero]
    repeat (go_big_quiet_step (first | (intro _; rfl)))
    refine wpQuiet_load_at rfl 35 (.tmp 76) rfl ⟨g1, o1 + n0 * 3, none⟩ rfl (.agg yv) H2.out ?_
    simp only [Act.put, List.setIfInBounds_toArray, List.set_cons_succ, List.set_cons_zero]
    repeat (go_big_quiet_step (first | (intro _; rfl)))
    refine wpQuiet_nil ?_
    intro wq hBq
    have HB7 := Lib.hid (HB6.out.trans (hBq.mono HB6.out.size))
    clear hBq heq
    go_wp2_with fail
    go_ret
    exact ⟨rfl, HB7.out⟩
  rw [decide_eq_true hyx] at heq
  have HP := Lib.hid (HPG.out t kk p x Htk.out (by rw [Hy.out, hyx]) hx0 (by rw [← Hen.out, Hz.out.1]; omega) (by rw [← Hen.out]; exact Hz.out.2.1) (by rw [← Hen.out]; exact Hz.out.2.2))
  clear hyx
  generalize (tkV y).toArray = xv at *
  generalize (tkV (kk, x, p)).toArray = yv at *
  go_upto_region 12 with fail
  refine wp_region_class (Below w6.heap.size w6) (by kernel_rfl) (by kernel_rfl) (Below.refl _ _).drew ?_
  repeat (go_big_quiet_step (first | (intro _; rfl)))
  refine wpQuiet_load_at rfl 35 (.tmp 72) rfl ⟨g2, o2 + n0 * 3, none⟩ rfl (.agg xv) H1.out ?_
  simp only [Act.put, List.setIfInBounds_toArray, List.set_cons_succ, List.set_cons_zero]
  repeat (go_big_quiet_step (first | (intro _; rfl)))
  refine wpQuiet_load_at rfl 35 (.tmp 76) rfl ⟨g1, o1 + n0 * 3, none⟩ rfl (.agg yv) H2.out ?_
  simp only [Act.put, List.setIfInBounds_toArray, List.set_cons_succ, List.set_cons_zero]
  repeat (go_big_quiet_step (first | (intro _; rfl)))
  refine wpQuiet_nil ?_
  intro w7 hBq
  have HQ7 := HQ6.out.trans (hBq.mono HQ6.out.size)
  have HB7 := Lib.hid (HB6.out.trans (hBq.mono HB6.out.size))
  have Hn := Lib.hid ((HQ7.block _ (lt_of_block Hn4.out)).trans Hn4.out)
  have HH := Lib.hid (HH4.out.below HQ7)
  have HXt := Lib.hid (fun w1 (hb : Below w.heap.size w w1) => show Calls Tryz.prog 9 #[.string t] w1 (fun e w' => ∃ v, e = .returned v ∧ HAt w' v h ∧ Below w1.heap.size w1 w') from by have := HX.out t w1 hzt hb; rw [HP.out] at this; exact this)
  clear hBq heq HQ7 hmd hmI
  go_upto_region 14 with fail
  have hRL : ∃ Rs : List (Value → World → Prop), Rs = [K3.PureV (.string t),
      HatV h,
      K3.PureV (.agg #[.string h.name, .slice pi h.imp.length ci, .string h.build, .slice pe h.emb.length ce, .int .i64 h.fault, .int .i64 h.at_]),
      K3.PureV (.bool true),
      K3.PureV (.bool true)] := ⟨_, rfl⟩
  obtain ⟨Rs, hRs⟩ := hRL
  refine K3.wp_region_rel2 w7.heap.size (Nat.le_refl _) (K3.RL Rs) [2, 1, 2, 2, 2] [1, 1, 1, 1, 1] [] (by kernel_rfl) (by kernel_rfl) (K3.RL.st1 (by rw [hRs]; exact K3.st1_cons (K3.PureV.st1 _) (K3.st1_cons (HatV.st1 h) (K3.st1_cons (K3.PureV.st1 _) (K3.st1_cons (K3.PureV.st1 _) (K3.st1_cons (K3.PureV.st1 _) (K3.st1_nil))))))) (K3.RL.st2 (by rw [hRs]; exact K3.st2_cons (K3.PureV.st2 _ _ _) (K3.st2_skip (K3.st2_cons (K3.PureV.st2 _ _ _) (K3.st2_cons (K3.PureV.st2 _ _ _) (K3.st2_cons (K3.PureV.st2 _ _ _) (K3.st2_nil))))))) ?_ ?_ ?_
  · intro i o d hi hd
    have hmem := List.mem_of_getElem? hi
    simp only [List.mem_cons, List.not_mem_nil, or_false] at hmem
    rcases hmem with rfl | rfl | rfl | rfl | rfl <;> simp at hd <;> (subst hd; simp)
  · refine K3.rel_start (Φ := K3.Hop _ _ _ _ _ _ _) ?_
    refine K3.rel_cons (Φ := K3.Hop _ _ _ _ _ _ _) (k := 0) ?_ ?_
    · intro fa fw hfB hfN hfE hfk hft
      have k9 : fa.eval (.tmp 9) = .string t := hft 9 (K3.mem_looks (by kernel_rfl)) (K3.noneed (by kernel_rfl))
      rw [hRs]
      refine K3.hop_plain rfl ?_
      refine K3.out_move rfl ?_
      exact ⟨k9, Below.refl _ _⟩
    refine K3.rel_cons (Φ := K3.Hop _ _ _ _ _ _ _) (k := 1) ?_ ?_
    · intro fa fw hfB hfN hfE hfk hft
      have hE : Below w7.drew.heap.size w7.drew fw := hfE (by kernel_rfl)
      have k80 : fa.eval (.tmp 80) = (.string t) := by have := hfk 0 (K3.mem_needs (by kernel_rfl)) _ rfl; rw [hRs] at this; exact this
      rw [hRs]
      refine K3.hop_plain rfl ?_
      have hE2 := ((Below.refl w7.heap.size w7).drew).trans hE
      have kf : fa.eval (.func 9) = .func (.func 9) #[] #[] := rfl
      refine K3.out_call (f := 9) (args := #[.string t]) (by generalize fa.eval = ρ at *; simp [execOp, k80, kf, go_sem]) ?_
      exact (HXt.out fw (HB7.out.trans (hE2.mono HB7.out.size))).mono fun e w'' ⟨v, h1, h2, h3⟩ => ⟨v, h1, h2, h3⟩
    refine K3.rel_cons (Φ := K3.Hop _ _ _ _ _ _ _) (k := 2) ?_ ?_
    · intro fa fw hfB hfN hfE hfk hft
      have hE : Below w7.drew.heap.size w7.drew fw := hfE (by kernel_rfl)
      have k5 : fa.eval (.tmp 5) = .pointer (some ⟨n, 0, none⟩) := hft 5 (K3.mem_looks (by kernel_rfl)) (K3.noneed (by kernel_rfl))
      rw [hRs]
      refine K3.hop_plain rfl ?_
      have hbx := (hE.block _ (lt_of_block Hn.out)).trans Hn.out
      refine out_load3 rfl k5 ?_ ⟨rfl, Below.refl _ _⟩
      exact run_loadVar_row fw n 26 26 _ (0, 0) _ hbx Tryz.underlying26 rfl size26
    refine K3.rel_cons (Φ := K3.Hop _ _ _ _ _ _ _) (k := 3) ?_ ?_
    · intro fa fw hfB hfN hfE hfk hft
      have hE : Below w7.drew.heap.size w7.drew fw := hfE (by kernel_rfl)
      have k81 : HatV h (fa.eval (.tmp 81)) fw := by have := hfk 1 (K3.mem_needs (by kernel_rfl)) _ rfl; rw [hRs] at this; exact this
      have k82 : fa.eval (.tmp 82) = (.agg #[.string h.name, .slice pi h.imp.length ci, .string h.build, .slice pe h.emb.length ce, .int .i64 h.fault, .int .i64 h.at_]) := by have := hfk 2 (K3.mem_needs (by kernel_rfl)) _ rfl; rw [hRs] at this; exact this
      rw [hRs]
      refine K3.hop_plain rfl ?_
      have hE2 := ((Below.refl w7.heap.size w7).drew).trans hE
      have k81 : HAt fw (fa.eval (.tmp 81)) h := k81
      have kf : fa.eval (.func 8) = .func (.func 8) #[] #[] := rfl
      refine K3.out_call (f := 8) (args := #[fa.eval (.tmp 81), .agg #[.string h.name, .slice pi h.imp.length ci, .string h.build, .slice pe h.emb.length ce, .int .i64 h.fault, .int .i64 h.at_]]) (by generalize fa.eval = ρ at *; simp [execOp, k82, kf, go_sem]) ?_
      exact (HS.out _ _ fw k81 (HH.out.below hE2)).mono fun e w'' ⟨h1, h2⟩ => ⟨_, h1, rfl, h2⟩
    refine K3.rel_cons (Φ := K3.Hop _ _ _ _ _ _ _) (k := 4) ?_ ?_
    · intro fa fw hfB hfN hfE hfk hft
      have k83 : fa.eval (.tmp 83) = (.bool true) := by have := hfk 3 (K3.mem_needs (by kernel_rfl)) _ rfl; rw [hRs] at this; exact this
      rw [hRs]
      refine K3.hop_plain rfl ?_
      refine K3.out_assign rfl ?_
      exact ⟨k83, Below.refl _ _⟩
    exact K3.rel_nil
  · intro fa fw hfB hfy hff hfs hfd
    rw [hRs] at hfy
    have k4 : fa.eval (.tmp 4) = (.bool true) := hfy 4 _ rfl (K3.unkilled (by decide))
    have e := K3.rel_frame [80, 81, 82, 83, 4] (by kernel_rfl) hff hfs hfd
    simp only [List.foldl] at e
    rw [show fa.tmps.getD 4 undef = .bool true from k4] at e
    clear hfy hff hfs hfd k4
    generalize fa.tmps.getD 80 undef = x80 at e
    generalize fa.tmps.getD 81 undef = x81 at e
    generalize fa.tmps.getD 82 undef = x82 at e
    generalize fa.tmps.getD 83 undef = x83 at e
    simp [List.setIfInBounds_toArray, List.set_cons_succ, List.set_cons_zero] at e
    subst e
    have HBF := HB7.out.trans (((Below.refl _ w7).drew.trans hfB).mono HB7.out.size)
    clear hfB
    go_wp2_with fail
    go_ret
    exact ⟨rfl, HBF⟩
end Go.Proofs.YtejogobhnbjpdaaGreatDoor
