/- Walks: the statement DiskLoses. -/
import Derived.Test.YtfmcemedaehcoaaWu
namespace Go.Proofs.Ytfmcemedaehcoaa
set_option linter.unusedVariables false
set_option linter.unusedSimpArgs false
open Go.ChangeShapes Go.WideShapes Go.ChangeAt Go.RowKit Go.ChangeMaps

theorem hdok {a l k : Int} {t : Bool} (ha : 0 ≤ a ∧ a ≤ 1000) (hl : 0 ≤ l ∧ l ≤ 9223372036854775807) : HdOk ⟨1048576, a, false, l, k, t⟩ := ⟨by show (0 : Int) ≤ 1048576 ∧ (1048576 : Int) ≤ 1048576; decide, hl, by show 0 ≤ a ∧ a ≤ 1099511627776; omega⟩
theorem Rows.cell {W : World} {X : Type} {R : X → List Value → Prop} {u : Value} {l : List X} (h : Rows W 1 R u l) {i : Nat} (hi : i < l.length) : ∃ b off cap v, u = .slice (some ⟨b, off, none⟩) l.length cap ∧ b < W.heap.size ∧ l.length ≤ cap ∧ cap ≤ maxLen ∧ W.cell? ⟨b, off + i, none⟩ = some v ∧ R l[i] [v] := by
  rcases h with ⟨_, rfl⟩ | ⟨b, off, cap, rfl, _, h2, h3, h4, h5⟩
  · simp at hi
  · obtain ⟨ecs, h6, h7, h8⟩ := h5 i l[i] (by simp [hi])
    match ecs, h7 with
    | [v], _ => exact ⟨b, off, cap, v, rfl, h4, h2, h3, by have := h8 0 (by decide); simpa using this, h6⟩
set_option maxRecDepth 100000 in
theorem loses_out (u0 u1 : Value) (ts : List (List UInt8)) (sy : List Bool) (n k : Int) (t : Bool) (w : World) (h0 : Rows w 1 (bslR w) u0 ts) (h1 : Rows w 1 boolR u1 sy) (hg : 40 < ts.length ∨ sy.length < ts.length) : Calls Try.prog 4 #[u0, u1, .int .i64 n, .int .i64 k, .bool t] w (LawEnd w) := by
  obtain ⟨p0, c0, rfl, _⟩ := h0.shape
  obtain ⟨p1, c1, rfl, _⟩ := h1.shape
  clear h0 h1
  have HA := Lib.hid (alive_any w)
  by_cases hp : 40 < ts.length
  · have g1 : decide (40 < ts.length) = true := decide_eq_true hp
    clear hg
    go_enter Try.func4, Try.ntmps4
    go_wp2_with fail
    refine HA.out.mono ?_
    rintro e w0 ⟨rfl, hb⟩
    have B0 := Lib.hid hb
    clear hb
    go_wp2_with fail
    go_ret
    exact ⟨rfl, B0.out⟩
  · have g1 : decide (40 < ts.length) = false := decide_eq_false hp
    have hq : sy.length < ts.length := hg.resolve_left hp
    have g2 : decide (sy.length < ts.length) = true := decide_eq_true hq
    clear hg
    go_enter Try.func4, Try.ntmps4
    go_wp2_with fail
    refine HA.out.mono ?_
    rintro e w0 ⟨rfl, hb⟩
    have B0 := Lib.hid hb
    clear hb
    go_wp2_with fail
    go_ret
    exact ⟨rfl, B0.out⟩
set_option maxRecDepth 100000 in
set_option maxHeartbeats 4000000 in
theorem loses_in (u0 u1 : Value) (ts : List (List UInt8)) (sy : List Bool) (n k : Int) (t : Bool) (w : World) (h0 : Rows w 1 (bslR w) u0 ts) (h1 : Rows w 1 boolR u1 sy) (hn : -9223372036854775808 ≤ n ∧ n ≤ 9223372036854775807) (hg1 : ts.length ≤ 40) (hg2 : ts.length ≤ sy.length) : Calls Try.prog 4 #[u0, u1, .int .i64 n, .int .i64 k, .bool t] w (LawEnd w) := by
  obtain ⟨p0, c0, rfl, _⟩ := h0.shape
  obtain ⟨p1, c1, rfl, _⟩ := h1.shape
  have R0 := Lib.hid h0
  have RS := Lib.hid h1
  clear h0 h1
  have HA := Lib.hid (alive_any w)
  have g1 : decide ((40 : Int) < (ts.length : Nat)) = false := decide_eq_false (by omega)
  have g2 : decide ((sy.length : Int) < (ts.length : Nat)) = false := decide_eq_false (by omega)
  go_enter Try.func4, Try.ntmps4
  go_wp2_with fail
  refine HA.out.mono ?_
  rintro e w0 ⟨rfl, hb⟩
  have B0 := Lib.hid hb
  clear hb
  go_wp2_with fail
  refine (newA 1048576 _).mono ?_
  rintro e w1 ⟨rfl, d, hb⟩
  have D1 := Lib.hid d
  have B1 := Lib.hid hb
  have M1 := Lib.hid hb.size
  clear d hb
  go_wp2_with fail
  refine (armA D1.out n k t).mono ?_
  rintro e w2 ⟨rfl, d, hk⟩
  have D2 := Lib.hid (d.cast (h' := ⟨1048576, 0, false, max n 0, k, t⟩) (A' := filA 0 [] 0) rfl rfl)
  have B2 := Lib.hid (B1.out.trans (hk.below (fun k hk => hk.1) B1.out.size))
  clear d hk D1 B1
  go_wp2_with fail
  have hl0 : 0 ≤ max n 0 ∧ max n 0 ≤ 9223372036854775807 := by omega
  have HL0 := Lib.hid hl0
  clear hl0
  go_loopg [12, 13, 14, 15, 16, 40] ts.length (fun gg va vs _ _ _ vi wr => ∃ (i sf nn : Nat) (al : List UInt8) (aa ll : Int), vi = .int .i64 i ∧ i + gg = ts.length ∧ va = .string (mkB al) ∧ vs = .int .i64 sf ∧ sf ≤ al.length ∧ al.length ≤ 8192 ∧ (0 ≤ aa ∧ aa ≤ 2 * i) ∧ (0 ≤ ll ∧ ll ≤ 9223372036854775807) ∧ (i = 0 → al = [] ∧ sf = 0) ∧ w0.heap.size ≤ nn ∧ DA w0.heap.size nn (w0.heap.size + 1) ⟨1048576, aa, false, ll, k, t⟩ (filA i al sf) wr ∧ Below w0.heap.size w0 wr)
  case atStart => exact ⟨0, 0, _, [], 0, max n 0, rfl, by omega, rfl, rfl, by simp, by simp, by omega, HL0.out, fun _ => ⟨rfl, rfl⟩, M1.out, D2.out, B2.out⟩
  case round =>
    obtain ⟨i, sf, nn, al, aa, ll, rfl, hig, rfl, rfl, hsf, hal, haa, hll, h0, hnn, hd, hB⟩ := hrel
    have hsS : (mkB al).size = al.length := mkB_size _
    by_cases hlt : i < ts.length
    · have hltI : (i : Int) < (ts.length : Nat) := by omega
      obtain ⟨b0, o0, cp0, v0, he0, hb0, hc0, hc0', hcell0, u0, hu0, hby, hbl⟩ := R0.out.cell hlt
      obtain ⟨b1, o1, cp1, v1, he1, hb1, hc1, hc1', hcell1, hbo⟩ := RS.out.cell (show i < sy.length by omega)
      injection he0 with e1 _ e2
      injection he1 with e3 _ e4
      subst e1 e2 e3 e4
      injection hu0 with hu0 _
      subst hu0
      injection hbo with hbo _
      subst hbo
      have hca : wr.cell? ⟨b0, o0 + i, none⟩ = some v0 := ((B0.out.trans (hB.mono B0.out.size)).cell hb0).trans hcell0
      have hcb : ∀ w9, Below w.heap.size w w9 → w9.cell? ⟨b1, o1 + i, none⟩ = some (.bool sy[i]) := fun w9 h => (h.cell hb1).trans hcell1
      have HCB := Lib.hid hcb
      have hlat := hby.lat.below (B0.out)
      clear hby
      obtain ⟨pb, cb, rfl⟩ := lat_slice hlat
      have HLt := Lib.hid hlat
      have D := Lib.hid hd
      have B := Lib.hid hB
      have M := Lib.hid hnn
      have H00 := Lib.hid h0
      have HSF := Lib.hid hsf
      have HAA := Lib.hid haa
      have HIG := Lib.hid hig
      have HGT := Lib.hid hg2
      generalize ts[i] = c at *
      generalize sy[i] = y at *
      clear hd hB hnn h0 hsf haa hlat hcb hcell0 hcell1 hig
      by_cases hsum : 8192 < al.length + c.length
      · have hs1 : decide ((8192 : Int) < (al.length : Nat) + (c.length : Nat)) = true := decide_eq_true (by omega)
        have hs2 : (8192 : Int) < (al.length : Nat) + (c.length : Nat) := by omega
        go_wp2_with fail
        go_ret
        exact ⟨rfl, B0.out.trans (B.out.mono B0.out.size)⟩
      · have hs1 : decide ((8192 : Int) < (al.length : Nat) + (c.length : Nat)) = false := decide_eq_false (by omega)
        have hs2 : ¬ (8192 : Int) < (al.length : Nat) + (c.length : Nat) := by omega
        have hcl : c.length ≤ 8192 := by omega
        have hcS : (mkB c).size = c.length := mkB_size _
        have hap := mkB_app al c
        have hpre : (if readyE ⟨1048576, aa, false, ll, k, t⟩ FF ≠ 0 then readyE ⟨1048576, aa, false, ll, k, t⟩ FF else if (⟨1048576, aa, false, ll, k, t⟩ : Hd).room - (totA (filA i al sf) : Nat) < (c.length : Nat) then 6 else 0) = 0 := pre_ok (by kernel_rfl) (by rw [filA_tot (fun h => (H00.out h).1)]; show (c.length : Int) ≤ 1048576 - (al.length : Nat); omega)
        have hapd := filA_apd (i := i) (a := al) (c := c) (s := sf) H00.out
        have HOK := Lib.hid (hdok (a := aa) (l := ll) (k := k) (t := t) (by have := HAA.out; have := HIG.out; omega) hll)
        have HTA : Hid (totA (filA i al sf) ≤ 1048576) := Lib.hid (by rw [filA_tot (fun h => (H00.out h).1)]; omega)
        have hact : sf ≤ (al ++ c).length ∧ (al ++ c).length ≤ 8192 := by have := HSF.out; rw [List.length_append]; omega
        have HAC := Lib.hid hact
        have hacS : (mkB (al ++ c)).size = (al ++ c).length := mkB_size _
        clear hact
        by_cases hl1 : ll = 1
        · have E1 := Lib.hid (step_off (A := filA i al sf) (A1 := apdA (filA i al sf) FF c) (stays := 0) (h := ⟨1048576, aa, false, ll, k, t⟩) hpre hl1)
          rw [hapd] at E1
          have HPRE := Lib.hid hpre
          clear hpre hapd
          go_wp2_with fail
          refine (appendA D.out M.out HOK.out HTA.out filA_len FF _ c (byt_arg HLt.out B.out) (by omega)).mono ?_
          intro e w3 h9
          rw [filA_apd H00.out] at h9
          obtain ⟨rfl, d, hk⟩ := h9.to E1.out
          have D3 := Lib.hid (d.cast (h' := ⟨1048576, aa + 1, true, 0, 0, false⟩) (A' := [(FF, loseD k t (al ++ c) sf, (loseD k t (al ++ c) sf).length)]) rfl (by rw [if_pos (by rfl)]; rfl))
          have B3 := Lib.hid (B.out.trans (hk.below (fun k hk => hk.1) B.out.size))
          have hcv := lat_conv (HLt.out.below B3.out)
          clear d hk D B
          go_wp2_with fail
          generalize aa + 1 = aa at *
          have Hle : Hid (sf ≤ (al ++ c).length) := Lib.hid (HAC.out.1)
          have H8 : Hid ((al ++ c).length ≤ 8192) := Lib.hid (HAC.out.2)
          have HF := Lib.hid (lose_le (k := k) (t := t) Hle.out)
          have HT := Lib.hid (fun n h1 h2 => lose_take (k := k) (t := t) Hle.out (n := n) h1 h2)
          have h16 : totA [(FF, loseD k t (al ++ c) (sf), (loseD k t (al ++ c) (sf)).length)] ≤ 1048576 := by have := H8.out; have := HF.out; simp [totA]; omega
          have H16 := Lib.hid h16
          clear h16
          refine (offA D3.out (by simp [totA] <;> (have := H8.out; have := HF.out; omega)) k t).mono ?_
          rintro e wa ⟨rfl, d, hk⟩
          have Da := Lib.hid (d.cast (h' := ⟨1048576, aa, true, 0, 0, false⟩) (A' := [(FF, loseD k t (al ++ c) (sf), (loseD k t (al ++ c) (sf)).length)]) (rfl) (rfl))
          have Ba := Lib.hid (B3.out.trans (hk.below (fun k hk => hk.1) B3.out.size))
          clear d hk
          go_wp2_with fail
          refine (onA Da.out).mono ?_
          rintro e wb ⟨rfl, d, hk⟩
          have Db := Lib.hid (d.cast (h' := ⟨1048576, aa, false, 0, 0, false⟩) (A' := [(FF, loseD k t (al ++ c) (sf), (loseD k t (al ++ c) (sf)).length)]) (rfl) (rfl))
          have Bb := Lib.hid (Ba.out.trans (hk.below (fun k hk => hk.1) Ba.out.size))
          clear d hk Da
          go_wp2_with fail
          refine (readA Db.out H16.out FF).mono ?_
          intro e wc h9
          obtain ⟨v1, rfl, ho1, hb⟩ := h9.ok (y := (FF, loseD k t (al ++ c) (sf), (loseD k t (al ++ c) (sf)).length)) (by kernel_rfl) (by kernel_rfl)
          replace ho1 : wc.ownsRow wb.heap.size 5 1 v1 (loseD k t (al ++ c) (sf)).length (LF bV (loseD k t (al ++ c) (sf))) := ho1
          obtain ⟨p7, c7, rfl⟩ := own_sliceN (own_zero ho1)
          have Bc := Lib.hid (Bb.out.trans (hb.mono Bb.out.size))
          have BW := Lib.hid (B0.out.trans (Bc.out.mono B0.out.size))
          have R1 := Lib.hid ho1
          clear hb ho1 Db Bb Ba H16 Hle
          generalize loseD k t (al ++ c) (sf) = F at *
          generalize (al ++ c) = AL at *
          have hsS : (mkB AL).size = AL.length := mkB_size _
          have hL := LAt.own (fun x _ => bV_len x) R1.out
          obtain ⟨p9, hs9, hl9⟩ := lat_upto hL (n := sf) HF.out.1
          have C1 := Lib.hid (fun w9 (h : Below wc.heap.size wc w9) => lat_conv (hl9.below h))
          have S9 := Lib.hid hs9
          have T9 := Lib.hid (fun w9 => str_upto (mkB AL) sf (by have := HF.out; rw [mkB_size]; omega) w9)
          rw [HT.out sf HF.out.1 (fun _ h => h)] at C1
          rw [mkB_take] at T9
          have hg1 : decide ((F.length : Int) < (sf : Nat)) = false := decide_eq_false (by have := HF.out; omega)
          have hg2 : decide ((AL.length : Int) < (F.length : Nat)) = false := decide_eq_false (by have := HF.out; omega)
          have hg3 : decide (F.length < sf) = false := decide_eq_false (by have := HF.out; omega)
          have hg4 : decide (AL.length < F.length) = false := decide_eq_false (by have := HF.out; omega)
          have hb1 : AL.length ≤ 8192 := H8.out
          have hb2 : F.length ≤ 8192 := by have := HF.out; omega
          clear hs9 hl9
          go_wp2_with fail
          refine wp_region_class (Below wc.heap.size wc) (by kernel_rfl) (by kernel_rfl) (Below.refl _ _).drew ?_
          repeat (go_big_quiet_step (first | (intro _; rfl)))
          refine wpQuiet_upto_at rfl 29 (.tmp 106) (.tmp 107) rfl _ _ _ rfl rfl S9.out ?_
          simp only [Act.put, List.setIfInBounds_toArray, List.set_cons_succ, List.set_cons_zero]
          repeat (go_big_quiet_step (first | (intro _; rfl)))
          refine wpQuiet_conv_at rfl 29 9 (.tmp 108) rfl _ _ rfl C1.out ?_
          simp only [Act.put, List.setIfInBounds_toArray, List.set_cons_succ, List.set_cons_zero]
          repeat (go_big_quiet_step (first | (intro _; rfl)))
          refine wpQuiet_upto_at rfl 9 (.tmp 110) (.tmp 111) rfl _ _ _ rfl rfl T9.out ?_
          simp only [Act.put, List.setIfInBounds_toArray, List.set_cons_succ, List.set_cons_zero]
          repeat (go_big_quiet_step (first | (intro _; rfl)))
          refine wpQuiet_nil ?_
          intro wd hz
          have BD := Lib.hid (BW.out.trans (hz.mono BW.out.size))
          have hL8 := Lib.hid (hL.below hz)
          clear hz hL
          by_cases hc : sf < F.length
          · have hc1 : decide ((sf : Int) < (F.length : Nat)) = true := decide_eq_true (by omega)
            cases t
            · obtain ⟨p8, hs8, hl8⟩ := lat_upto hL8.out (n := F.length) (Nat.le_refl _)
              have C8 := Lib.hid (fun w9 (h : Below wd.heap.size wd w9) => lat_conv (hl8.below h))
              have S8 := Lib.hid hs8
              have T8 := Lib.hid (fun w9 => str_upto (mkB AL) (F.length) (by have := HF.out; rw [mkB_size]; omega) w9)
              rw [HT.out (F.length) (Nat.le_refl _) (by simp)] at C8
              rw [mkB_take] at T8
              clear hs8 hl8
              go_wp2_with fail
              refine wp_region_class (Below wd.heap.size wd) (by kernel_rfl) (by kernel_rfl) (Below.refl _ _).drew ?_
              repeat (go_big_quiet_step (first | (intro _; rfl)))
              refine wpQuiet_upto_at rfl 29 (.tmp 125) (.tmp 126) rfl _ _ _ rfl rfl S8.out ?_
              simp only [Act.put, List.setIfInBounds_toArray, List.set_cons_succ, List.set_cons_zero]
              repeat (go_big_quiet_step (first | (intro _; rfl)))
              refine wpQuiet_conv_at rfl 29 9 (.tmp 127) rfl _ _ rfl C8.out ?_
              simp only [Act.put, List.setIfInBounds_toArray, List.set_cons_succ, List.set_cons_zero]
              repeat (go_big_quiet_step (first | (intro _; rfl)))
              refine wpQuiet_upto_at rfl 9 (.tmp 129) (.tmp 130) rfl _ _ _ rfl rfl T8.out ?_
              simp only [Act.put, List.setIfInBounds_toArray, List.set_cons_succ, List.set_cons_zero]
              repeat (go_big_quiet_step (first | (intro _; rfl)))
              refine wpQuiet_nil ?_
              intro wz hz
              have BZ := Lib.hid (BD.out.trans (hz.mono BD.out.size))
              clear hz
              go_wp2_with fail
              go_ret
              exact ⟨rfl, BZ.out⟩
            · obtain ⟨p8, hs8, hl8⟩ := lat_upto hL8.out (n := F.length - 1) (by omega)
              have C8 := Lib.hid (fun w9 (h : Below wd.heap.size wd w9) => lat_conv (hl8.below h))
              have S8 := Lib.hid hs8
              have T8 := Lib.hid (fun w9 => str_upto (mkB AL) (F.length - 1) (by have := HF.out; rw [mkB_size]; omega) w9)
              rw [HT.out (F.length - 1) (by omega) (by omega)] at C8
              rw [mkB_take] at T8
              clear hs8 hl8
              have hcast : ((F.length : Int) - 1) = ((F.length - 1 : Nat) : Int) := by omega
              go_wp2_with fail
              refine wp_region_class (Below wd.heap.size wd) (by kernel_rfl) (by kernel_rfl) (Below.refl _ _).drew ?_
              repeat (go_big_quiet_step (first | (intro _; rfl)))
              refine wpQuiet_upto_at rfl 29 (.tmp 125) (.tmp 126) rfl _ _ _ rfl rfl S8.out ?_
              simp only [Act.put, List.setIfInBounds_toArray, List.set_cons_succ, List.set_cons_zero]
              repeat (go_big_quiet_step (first | (intro _; rfl)))
              refine wpQuiet_conv_at rfl 29 9 (.tmp 127) rfl _ _ rfl C8.out ?_
              simp only [Act.put, List.setIfInBounds_toArray, List.set_cons_succ, List.set_cons_zero]
              repeat (go_big_quiet_step (first | (intro _; rfl)))
              refine wpQuiet_upto_at rfl 9 (.tmp 129) (.tmp 130) rfl _ _ _ rfl rfl T8.out ?_
              simp only [Act.put, List.setIfInBounds_toArray, List.set_cons_succ, List.set_cons_zero]
              repeat (go_big_quiet_step (first | (intro _; rfl)))
              refine wpQuiet_nil ?_
              intro wz hz
              have BZ := Lib.hid (BD.out.trans (hz.mono BD.out.size))
              clear hz
              go_wp2_with fail
              go_ret
              exact ⟨rfl, BZ.out⟩
          · have hc1 : decide ((sf : Int) < (F.length : Nat)) = false := decide_eq_false (by omega)
            cases t
            · obtain ⟨p8, hs8, hl8⟩ := lat_upto hL8.out (n := F.length) (Nat.le_refl _)
              have C8 := Lib.hid (fun w9 (h : Below wd.heap.size wd w9) => lat_conv (hl8.below h))
              have S8 := Lib.hid hs8
              have T8 := Lib.hid (fun w9 => str_upto (mkB AL) (F.length) (by have := HF.out; rw [mkB_size]; omega) w9)
              rw [HT.out (F.length) (Nat.le_refl _) (by simp)] at C8
              rw [mkB_take] at T8
              clear hs8 hl8
              go_wp2_with fail
              refine wp_region_class (Below wd.heap.size wd) (by kernel_rfl) (by kernel_rfl) (Below.refl _ _).drew ?_
              repeat (go_big_quiet_step (first | (intro _; rfl)))
              refine wpQuiet_upto_at rfl 29 (.tmp 125) (.tmp 126) rfl _ _ _ rfl rfl S8.out ?_
              simp only [Act.put, List.setIfInBounds_toArray, List.set_cons_succ, List.set_cons_zero]
              repeat (go_big_quiet_step (first | (intro _; rfl)))
              refine wpQuiet_conv_at rfl 29 9 (.tmp 127) rfl _ _ rfl C8.out ?_
              simp only [Act.put, List.setIfInBounds_toArray, List.set_cons_succ, List.set_cons_zero]
              repeat (go_big_quiet_step (first | (intro _; rfl)))
              refine wpQuiet_upto_at rfl 9 (.tmp 129) (.tmp 130) rfl _ _ _ rfl rfl T8.out ?_
              simp only [Act.put, List.setIfInBounds_toArray, List.set_cons_succ, List.set_cons_zero]
              repeat (go_big_quiet_step (first | (intro _; rfl)))
              refine wpQuiet_nil ?_
              intro wz hz
              have BZ := Lib.hid (BD.out.trans (hz.mono BD.out.size))
              clear hz
              go_wp2_with fail
              go_ret
              exact ⟨rfl, BZ.out⟩
            · obtain ⟨p8, hs8, hl8⟩ := lat_upto hL8.out (n := F.length) (Nat.le_refl _)
              have C8 := Lib.hid (fun w9 (h : Below wd.heap.size wd w9) => lat_conv (hl8.below h))
              have S8 := Lib.hid hs8
              have T8 := Lib.hid (fun w9 => str_upto (mkB AL) (F.length) (by have := HF.out; rw [mkB_size]; omega) w9)
              rw [HT.out (F.length) (Nat.le_refl _) (by omega)] at C8
              rw [mkB_take] at T8
              clear hs8 hl8
              go_wp2_with fail
              refine wp_region_class (Below wd.heap.size wd) (by kernel_rfl) (by kernel_rfl) (Below.refl _ _).drew ?_
              repeat (go_big_quiet_step (first | (intro _; rfl)))
              refine wpQuiet_upto_at rfl 29 (.tmp 125) (.tmp 126) rfl _ _ _ rfl rfl S8.out ?_
              simp only [Act.put, List.setIfInBounds_toArray, List.set_cons_succ, List.set_cons_zero]
              repeat (go_big_quiet_step (first | (intro _; rfl)))
              refine wpQuiet_conv_at rfl 29 9 (.tmp 127) rfl _ _ rfl C8.out ?_
              simp only [Act.put, List.setIfInBounds_toArray, List.set_cons_succ, List.set_cons_zero]
              repeat (go_big_quiet_step (first | (intro _; rfl)))
              refine wpQuiet_upto_at rfl 9 (.tmp 129) (.tmp 130) rfl _ _ _ rfl rfl T8.out ?_
              simp only [Act.put, List.setIfInBounds_toArray, List.set_cons_succ, List.set_cons_zero]
              repeat (go_big_quiet_step (first | (intro _; rfl)))
              refine wpQuiet_nil ?_
              intro wz hz
              have BZ := Lib.hid (BD.out.trans (hz.mono BD.out.size))
              clear hz
              go_wp2_with fail
              go_ret
              exact ⟨rfl, BZ.out⟩
        · have E1 := Lib.hid (step_ok (A := filA i al sf) (A1 := apdA (filA i al sf) FF c) (stays := 0) (h := ⟨1048576, aa, false, ll, k, t⟩) hpre hl1)
          rw [hapd] at E1
          have HLL : Hid (0 ≤ max (ll - 1) 0 ∧ max (ll - 1) 0 ≤ 9223372036854775807) := Lib.hid (by omega)
          have HLL1 : Hid (ll ≠ 1) := Lib.hid hl1
          clear hpre hapd hl1
          go_wp2_with fail
          refine (appendA D.out M.out HOK.out HTA.out filA_len FF _ c (byt_arg HLt.out B.out) (by omega)).mono ?_
          intro e w3 h9
          rw [filA_apd H00.out] at h9
          obtain ⟨rfl, d, hk⟩ := h9.to E1.out
          have D3 := Lib.hid (d.cast (h' := ⟨1048576, aa + 1, false, max (ll - 1) 0, k, t⟩) (A' := [(FF, al ++ c, sf)]) rfl rfl)
          have B3 := Lib.hid (B.out.trans (hk.below (fun k hk => hk.1) B.out.size))
          have hcv := lat_conv (HLt.out.below B3.out)
          have hcb := HCB.out w3 (B0.out.trans (B3.out.mono B0.out.size))
          clear d hk D B hll
          have HA2 : Hid (0 ≤ aa + 1 ∧ aa + 1 ≤ 2 * i + 1) := Lib.hid (by have := HAA.out; omega)
          generalize aa + 1 = aa at *
          generalize max (ll - 1) 0 = ll2 at *
          cases y
          · go_wp2_with fail
            go_roundg (gk - 1)
            case measure => have := HIG.out; omega
            case rel => exact ⟨i + 1, sf, _, al ++ c, aa, ll2, by go_num, by have := HIG.out; omega, rfl, rfl, HAC.out.1, HAC.out.2, by have := HA2.out; omega, HLL.out, by omega, Nat.le_trans B3.out.size (Nat.le_refl _), D3.out, B3.out⟩
          · have HOK2 := Lib.hid (hdok (a := aa) (l := ll2) (k := k) (t := t) (by have := HA2.out; have := HIG.out; omega) HLL.out)
            have hpre2 : findA ⟨1048576, aa, false, ll2, k, t⟩ [(FF, al ++ c, sf)] FF = 0 := by kernel_rfl
            by_cases hl2 : ll2 = 1
            · have E2 := Lib.hid (step_off (A := [(FF, al ++ c, sf)]) (A1 := synA [(FF, al ++ c, sf)] FF) (stays := 2) (h := ⟨1048576, aa, false, ll2, k, t⟩) hpre2 hl2)
              clear hpre2
              have HTA2 : Hid (totA [(FF, al ++ c, sf)] ≤ 1048576) := Lib.hid (by have := HAC.out.2; simp only [totA, List.map_cons, List.map_nil, List.sum_cons, List.sum_nil]; omega)
              go_wp2_with fail
              refine (syncA D3.out (Nat.le_trans (Nat.le_refl _) B3.out.size) HOK2.out HTA2.out FF).mono ?_
              intro e w4 h9
              obtain ⟨rfl, d, hk⟩ := h9.to E2.out
              have D4 := Lib.hid (d.cast (h' := ⟨1048576, aa + 1, true, 0, 0, false⟩) (A' := [(FF, loseD k t (al ++ c) sf, (loseD k t (al ++ c) sf).length)]) rfl (by rw [if_neg (by simp [doesB])]; rfl))
              have B4 := Lib.hid (B3.out.trans (hk.below (fun k hk => hk.1) B3.out.size))
              clear d hk D3 B3 hl2
              go_wp2_with fail
              generalize aa + 1 = aa at *
              have Hle : Hid (sf ≤ (al ++ c).length) := Lib.hid (HAC.out.1)
              have H8 : Hid ((al ++ c).length ≤ 8192) := Lib.hid (HAC.out.2)
              have HF := Lib.hid (lose_le (k := k) (t := t) Hle.out)
              have HT := Lib.hid (fun n h1 h2 => lose_take (k := k) (t := t) Hle.out (n := n) h1 h2)
              have h16 : totA [(FF, loseD k t (al ++ c) (sf), (loseD k t (al ++ c) (sf)).length)] ≤ 1048576 := by have := H8.out; have := HF.out; simp [totA]; omega
              have H16 := Lib.hid h16
              clear h16
              refine (offA D4.out (by simp [totA] <;> (have := H8.out; have := HF.out; omega)) k t).mono ?_
              rintro e wa ⟨rfl, d, hk⟩
              have Da := Lib.hid (d.cast (h' := ⟨1048576, aa, true, 0, 0, false⟩) (A' := [(FF, loseD k t (al ++ c) (sf), (loseD k t (al ++ c) (sf)).length)]) (rfl) (rfl))
              have Ba := Lib.hid (B4.out.trans (hk.below (fun k hk => hk.1) B4.out.size))
              clear d hk
              go_wp2_with fail
              refine (onA Da.out).mono ?_
              rintro e wb ⟨rfl, d, hk⟩
              have Db := Lib.hid (d.cast (h' := ⟨1048576, aa, false, 0, 0, false⟩) (A' := [(FF, loseD k t (al ++ c) (sf), (loseD k t (al ++ c) (sf)).length)]) (rfl) (rfl))
              have Bb := Lib.hid (Ba.out.trans (hk.below (fun k hk => hk.1) Ba.out.size))
              clear d hk Da
              go_wp2_with fail
              refine (readA Db.out H16.out FF).mono ?_
              intro e wc h9
              obtain ⟨v1, rfl, ho1, hb⟩ := h9.ok (y := (FF, loseD k t (al ++ c) (sf), (loseD k t (al ++ c) (sf)).length)) (by kernel_rfl) (by kernel_rfl)
              replace ho1 : wc.ownsRow wb.heap.size 5 1 v1 (loseD k t (al ++ c) (sf)).length (LF bV (loseD k t (al ++ c) (sf))) := ho1
              obtain ⟨p7, c7, rfl⟩ := own_sliceN (own_zero ho1)
              have Bc := Lib.hid (Bb.out.trans (hb.mono Bb.out.size))
              have BW := Lib.hid (B0.out.trans (Bc.out.mono B0.out.size))
              have R1 := Lib.hid ho1
              clear hb ho1 Db Bb Ba H16 Hle
              generalize loseD k t (al ++ c) (sf) = F at *
              generalize (al ++ c) = AL at *
              have hsS : (mkB AL).size = AL.length := mkB_size _
              have hL := LAt.own (fun x _ => bV_len x) R1.out
              obtain ⟨p9, hs9, hl9⟩ := lat_upto hL (n := sf) HF.out.1
              have C1 := Lib.hid (fun w9 (h : Below wc.heap.size wc w9) => lat_conv (hl9.below h))
              have S9 := Lib.hid hs9
              have T9 := Lib.hid (fun w9 => str_upto (mkB AL) sf (by have := HF.out; rw [mkB_size]; omega) w9)
              rw [HT.out sf HF.out.1 (fun _ h => h)] at C1
              rw [mkB_take] at T9
              have hg1 : decide ((F.length : Int) < (sf : Nat)) = false := decide_eq_false (by have := HF.out; omega)
              have hg2 : decide ((AL.length : Int) < (F.length : Nat)) = false := decide_eq_false (by have := HF.out; omega)
              have hg3 : decide (F.length < sf) = false := decide_eq_false (by have := HF.out; omega)
              have hg4 : decide (AL.length < F.length) = false := decide_eq_false (by have := HF.out; omega)
              have hb1 : AL.length ≤ 8192 := H8.out
              have hb2 : F.length ≤ 8192 := by have := HF.out; omega
              clear hs9 hl9
              go_wp2_with fail
              refine wp_region_class (Below wc.heap.size wc) (by kernel_rfl) (by kernel_rfl) (Below.refl _ _).drew ?_
              repeat (go_big_quiet_step (first | (intro _; rfl)))
              refine wpQuiet_upto_at rfl 29 (.tmp 106) (.tmp 107) rfl _ _ _ rfl rfl S9.out ?_
              simp only [Act.put, List.setIfInBounds_toArray, List.set_cons_succ, List.set_cons_zero]
              repeat (go_big_quiet_step (first | (intro _; rfl)))
              refine wpQuiet_conv_at rfl 29 9 (.tmp 108) rfl _ _ rfl C1.out ?_
              simp only [Act.put, List.setIfInBounds_toArray, List.set_cons_succ, List.set_cons_zero]
              repeat (go_big_quiet_step (first | (intro _; rfl)))
              refine wpQuiet_upto_at rfl 9 (.tmp 110) (.tmp 111) rfl _ _ _ rfl rfl T9.out ?_
              simp only [Act.put, List.setIfInBounds_toArray, List.set_cons_succ, List.set_cons_zero]
              repeat (go_big_quiet_step (first | (intro _; rfl)))
              refine wpQuiet_nil ?_
              intro wd hz
              have BD := Lib.hid (BW.out.trans (hz.mono BW.out.size))
              have hL8 := Lib.hid (hL.below hz)
              clear hz hL
              by_cases hc : sf < F.length
              · have hc1 : decide ((sf : Int) < (F.length : Nat)) = true := decide_eq_true (by omega)
                cases t
                · obtain ⟨p8, hs8, hl8⟩ := lat_upto hL8.out (n := F.length) (Nat.le_refl _)
                  have C8 := Lib.hid (fun w9 (h : Below wd.heap.size wd w9) => lat_conv (hl8.below h))
                  have S8 := Lib.hid hs8
                  have T8 := Lib.hid (fun w9 => str_upto (mkB AL) (F.length) (by have := HF.out; rw [mkB_size]; omega) w9)
                  rw [HT.out (F.length) (Nat.le_refl _) (by simp)] at C8
                  rw [mkB_take] at T8
                  clear hs8 hl8
                  go_wp2_with fail
                  refine wp_region_class (Below wd.heap.size wd) (by kernel_rfl) (by kernel_rfl) (Below.refl _ _).drew ?_
                  repeat (go_big_quiet_step (first | (intro _; rfl)))
                  refine wpQuiet_upto_at rfl 29 (.tmp 125) (.tmp 126) rfl _ _ _ rfl rfl S8.out ?_
                  simp only [Act.put, List.setIfInBounds_toArray, List.set_cons_succ, List.set_cons_zero]
                  repeat (go_big_quiet_step (first | (intro _; rfl)))
                  refine wpQuiet_conv_at rfl 29 9 (.tmp 127) rfl _ _ rfl C8.out ?_
                  simp only [Act.put, List.setIfInBounds_toArray, List.set_cons_succ, List.set_cons_zero]
                  repeat (go_big_quiet_step (first | (intro _; rfl)))
                  refine wpQuiet_upto_at rfl 9 (.tmp 129) (.tmp 130) rfl _ _ _ rfl rfl T8.out ?_
                  simp only [Act.put, List.setIfInBounds_toArray, List.set_cons_succ, List.set_cons_zero]
                  repeat (go_big_quiet_step (first | (intro _; rfl)))
                  refine wpQuiet_nil ?_
                  intro wz hz
                  have BZ := Lib.hid (BD.out.trans (hz.mono BD.out.size))
                  clear hz
                  go_wp2_with fail
                  go_ret
                  exact ⟨rfl, BZ.out⟩
                · obtain ⟨p8, hs8, hl8⟩ := lat_upto hL8.out (n := F.length - 1) (by omega)
                  have C8 := Lib.hid (fun w9 (h : Below wd.heap.size wd w9) => lat_conv (hl8.below h))
                  have S8 := Lib.hid hs8
                  have T8 := Lib.hid (fun w9 => str_upto (mkB AL) (F.length - 1) (by have := HF.out; rw [mkB_size]; omega) w9)
                  rw [HT.out (F.length - 1) (by omega) (by omega)] at C8
                  rw [mkB_take] at T8
                  clear hs8 hl8
                  have hcast : ((F.length : Int) - 1) = ((F.length - 1 : Nat) : Int) := by omega
                  go_wp2_with fail
                  refine wp_region_class (Below wd.heap.size wd) (by kernel_rfl) (by kernel_rfl) (Below.refl _ _).drew ?_
                  repeat (go_big_quiet_step (first | (intro _; rfl)))
                  refine wpQuiet_upto_at rfl 29 (.tmp 125) (.tmp 126) rfl _ _ _ rfl rfl S8.out ?_
                  simp only [Act.put, List.setIfInBounds_toArray, List.set_cons_succ, List.set_cons_zero]
                  repeat (go_big_quiet_step (first | (intro _; rfl)))
                  refine wpQuiet_conv_at rfl 29 9 (.tmp 127) rfl _ _ rfl C8.out ?_
                  simp only [Act.put, List.setIfInBounds_toArray, List.set_cons_succ, List.set_cons_zero]
                  repeat (go_big_quiet_step (first | (intro _; rfl)))
                  refine wpQuiet_upto_at rfl 9 (.tmp 129) (.tmp 130) rfl _ _ _ rfl rfl T8.out ?_
                  simp only [Act.put, List.setIfInBounds_toArray, List.set_cons_succ, List.set_cons_zero]
                  repeat (go_big_quiet_step (first | (intro _; rfl)))
                  refine wpQuiet_nil ?_
                  intro wz hz
                  have BZ := Lib.hid (BD.out.trans (hz.mono BD.out.size))
                  clear hz
                  go_wp2_with fail
                  go_ret
                  exact ⟨rfl, BZ.out⟩
              · have hc1 : decide ((sf : Int) < (F.length : Nat)) = false := decide_eq_false (by omega)
                cases t
                · obtain ⟨p8, hs8, hl8⟩ := lat_upto hL8.out (n := F.length) (Nat.le_refl _)
                  have C8 := Lib.hid (fun w9 (h : Below wd.heap.size wd w9) => lat_conv (hl8.below h))
                  have S8 := Lib.hid hs8
                  have T8 := Lib.hid (fun w9 => str_upto (mkB AL) (F.length) (by have := HF.out; rw [mkB_size]; omega) w9)
                  rw [HT.out (F.length) (Nat.le_refl _) (by simp)] at C8
                  rw [mkB_take] at T8
                  clear hs8 hl8
                  go_wp2_with fail
                  refine wp_region_class (Below wd.heap.size wd) (by kernel_rfl) (by kernel_rfl) (Below.refl _ _).drew ?_
                  repeat (go_big_quiet_step (first | (intro _; rfl)))
                  refine wpQuiet_upto_at rfl 29 (.tmp 125) (.tmp 126) rfl _ _ _ rfl rfl S8.out ?_
                  simp only [Act.put, List.setIfInBounds_toArray, List.set_cons_succ, List.set_cons_zero]
                  repeat (go_big_quiet_step (first | (intro _; rfl)))
                  refine wpQuiet_conv_at rfl 29 9 (.tmp 127) rfl _ _ rfl C8.out ?_
                  simp only [Act.put, List.setIfInBounds_toArray, List.set_cons_succ, List.set_cons_zero]
                  repeat (go_big_quiet_step (first | (intro _; rfl)))
                  refine wpQuiet_upto_at rfl 9 (.tmp 129) (.tmp 130) rfl _ _ _ rfl rfl T8.out ?_
                  simp only [Act.put, List.setIfInBounds_toArray, List.set_cons_succ, List.set_cons_zero]
                  repeat (go_big_quiet_step (first | (intro _; rfl)))
                  refine wpQuiet_nil ?_
                  intro wz hz
                  have BZ := Lib.hid (BD.out.trans (hz.mono BD.out.size))
                  clear hz
                  go_wp2_with fail
                  go_ret
                  exact ⟨rfl, BZ.out⟩
                · obtain ⟨p8, hs8, hl8⟩ := lat_upto hL8.out (n := F.length) (Nat.le_refl _)
                  have C8 := Lib.hid (fun w9 (h : Below wd.heap.size wd w9) => lat_conv (hl8.below h))
                  have S8 := Lib.hid hs8
                  have T8 := Lib.hid (fun w9 => str_upto (mkB AL) (F.length) (by have := HF.out; rw [mkB_size]; omega) w9)
                  rw [HT.out (F.length) (Nat.le_refl _) (by omega)] at C8
                  rw [mkB_take] at T8
                  clear hs8 hl8
                  go_wp2_with fail
                  refine wp_region_class (Below wd.heap.size wd) (by kernel_rfl) (by kernel_rfl) (Below.refl _ _).drew ?_
                  repeat (go_big_quiet_step (first | (intro _; rfl)))
                  refine wpQuiet_upto_at rfl 29 (.tmp 125) (.tmp 126) rfl _ _ _ rfl rfl S8.out ?_
                  simp only [Act.put, List.setIfInBounds_toArray, List.set_cons_succ, List.set_cons_zero]
                  repeat (go_big_quiet_step (first | (intro _; rfl)))
                  refine wpQuiet_conv_at rfl 29 9 (.tmp 127) rfl _ _ rfl C8.out ?_
                  simp only [Act.put, List.setIfInBounds_toArray, List.set_cons_succ, List.set_cons_zero]
                  repeat (go_big_quiet_step (first | (intro _; rfl)))
                  refine wpQuiet_upto_at rfl 9 (.tmp 129) (.tmp 130) rfl _ _ _ rfl rfl T8.out ?_
                  simp only [Act.put, List.setIfInBounds_toArray, List.set_cons_succ, List.set_cons_zero]
                  repeat (go_big_quiet_step (first | (intro _; rfl)))
                  refine wpQuiet_nil ?_
                  intro wz hz
                  have BZ := Lib.hid (BD.out.trans (hz.mono BD.out.size))
                  clear hz
                  go_wp2_with fail
                  go_ret
                  exact ⟨rfl, BZ.out⟩
            · have E2 := Lib.hid (step_ok (A := [(FF, al ++ c, sf)]) (A1 := synA [(FF, al ++ c, sf)] FF) (stays := 2) (h := ⟨1048576, aa, false, ll2, k, t⟩) hpre2 hl2)
              have HLL3 : Hid (0 ≤ max (ll2 - 1) 0 ∧ max (ll2 - 1) 0 ≤ 9223372036854775807) := Lib.hid (by have := HLL.out; omega)
              clear hpre2 hl2
              have HTA2 : Hid (totA [(FF, al ++ c, sf)] ≤ 1048576) := Lib.hid (by have := HAC.out.2; simp only [totA, List.map_cons, List.map_nil, List.sum_cons, List.sum_nil]; omega)
              go_wp2_with fail
              refine (syncA D3.out (Nat.le_trans (Nat.le_refl _) B3.out.size) HOK2.out HTA2.out FF).mono ?_
              intro e w4 h9
              obtain ⟨rfl, d, hk⟩ := h9.to E2.out
              have D4 := Lib.hid (d.cast (h' := ⟨1048576, aa + 1, false, max (ll2 - 1) 0, k, t⟩) (A' := [(FF, al ++ c, (al ++ c).length)]) rfl rfl)
              have B4 := Lib.hid (B3.out.trans (hk.below (fun k hk => hk.1) B3.out.size))
              clear d hk D3 B3
              go_wp2_with fail
              go_roundg (gk - 1)
              case measure => have := HIG.out; omega
              case rel => exact ⟨i + 1, (al ++ c).length, _, al ++ c, aa + 1, max (ll2 - 1) 0, by go_num, by have := HIG.out; omega, rfl, by rw [List.length_append, Int.natCast_add], Nat.le_refl _, HAC.out.2, by have := HA2.out; omega, HLL3.out, by omega, Nat.le_trans B4.out.size (Nat.le_refl _), D4.out, B4.out⟩
    · have hltI : ¬ (i : Int) < (ts.length : Nat) := by omega
      have HD := Lib.hid hd
      have HB := Lib.hid hB
      have HSF := Lib.hid hsf
      have HAL := Lib.hid hal
      have H00 := Lib.hid h0
      by_cases hi0 : i = 0
      · obtain ⟨rfl, rfl⟩ := h0 hi0
        subst hi0
        have D3 := Lib.hid (HD.out.cast (A' := []) rfl rfl)
        clear hd hB hsf h0 hig HD haa hnn
        go_wp2_with fail
        refine (offA D3.out (by decide) k t).mono ?_
        rintro e wa ⟨rfl, d, hk⟩
        have Da := Lib.hid (d.cast (h' := ⟨1048576, aa, true, 0, 0, false⟩) (A' := []) (rfl) (rfl))
        have Ba := Lib.hid (HB.out.trans (hk.below (fun k hk => hk.1) HB.out.size))
        clear d hk
        go_wp2_with fail
        refine (onA Da.out).mono ?_
        rintro e wb ⟨rfl, d, hk⟩
        have Db := Lib.hid (d.cast (h' := ⟨1048576, aa, false, 0, 0, false⟩) (A' := []) (rfl) (rfl))
        have Bb := Lib.hid (Ba.out.trans (hk.below (fun k hk => hk.1) Ba.out.size))
        clear d hk Da
        go_wp2_with fail
        refine (readA Db.out (by decide) FF).mono ?_
        intro e wc h9
        obtain ⟨rfl, hb⟩ := h9.err 5 (by kernel_rfl) (by decide)
        have BW := Lib.hid (B0.out.trans ((Bb.out.trans (hb.mono Bb.out.size)).mono B0.out.size))
        clear hb h9
        rw [show mkB [] = ByteArray.mk #[] from rfl]
        go_wp2_with fail
        go_ret
        exact ⟨rfl, BW.out⟩
      · have D3 := Lib.hid (HD.out.cast (A' := [(FF, al, sf)]) rfl (by unfold filA; rw [if_neg hi0]))
        clear hd hB hsf h0 hig HD haa hnn hi0
        go_wp2_with fail
        have Hle : Hid (sf ≤ (al).length) := Lib.hid (HSF.out)
        have H8 : Hid ((al).length ≤ 8192) := Lib.hid (HAL.out)
        have HF := Lib.hid (lose_le (k := k) (t := t) Hle.out)
        have HT := Lib.hid (fun n h1 h2 => lose_take (k := k) (t := t) Hle.out (n := n) h1 h2)
        have h16 : totA [(FF, loseD k t (al) (sf), (loseD k t (al) (sf)).length)] ≤ 1048576 := by have := H8.out; have := HF.out; simp [totA]; omega
        have H16 := Lib.hid h16
        clear h16
        refine (offA D3.out (by simp [totA] <;> (have := H8.out; have := HF.out; omega)) k t).mono ?_
        rintro e wa ⟨rfl, d, hk⟩
        have Da := Lib.hid (d.cast (h' := ⟨1048576, aa, true, 0, 0, false⟩) (A' := [(FF, loseD k t (al) (sf), (loseD k t (al) (sf)).length)]) (rfl) (rfl))
        have Ba := Lib.hid (HB.out.trans (hk.below (fun k hk => hk.1) HB.out.size))
        clear d hk
        go_wp2_with fail
        refine (onA Da.out).mono ?_
        rintro e wb ⟨rfl, d, hk⟩
        have Db := Lib.hid (d.cast (h' := ⟨1048576, aa, false, 0, 0, false⟩) (A' := [(FF, loseD k t (al) (sf), (loseD k t (al) (sf)).length)]) (rfl) (rfl))
        have Bb := Lib.hid (Ba.out.trans (hk.below (fun k hk => hk.1) Ba.out.size))
        clear d hk Da
        go_wp2_with fail
        refine (readA Db.out H16.out FF).mono ?_
        intro e wc h9
        obtain ⟨v1, rfl, ho1, hb⟩ := h9.ok (y := (FF, loseD k t (al) (sf), (loseD k t (al) (sf)).length)) (by kernel_rfl) (by kernel_rfl)
        replace ho1 : wc.ownsRow wb.heap.size 5 1 v1 (loseD k t (al) (sf)).length (LF bV (loseD k t (al) (sf))) := ho1
        obtain ⟨p7, c7, rfl⟩ := own_sliceN (own_zero ho1)
        have Bc := Lib.hid (Bb.out.trans (hb.mono Bb.out.size))
        have BW := Lib.hid (B0.out.trans (Bc.out.mono B0.out.size))
        have R1 := Lib.hid ho1
        clear hb ho1 Db Bb Ba H16 Hle
        generalize loseD k t (al) (sf) = F at *
        generalize (al) = AL at *
        have hsS : (mkB AL).size = AL.length := mkB_size _
        have hL := LAt.own (fun x _ => bV_len x) R1.out
        obtain ⟨p9, hs9, hl9⟩ := lat_upto hL (n := sf) HF.out.1
        have C1 := Lib.hid (fun w9 (h : Below wc.heap.size wc w9) => lat_conv (hl9.below h))
        have S9 := Lib.hid hs9
        have T9 := Lib.hid (fun w9 => str_upto (mkB AL) sf (by have := HF.out; rw [mkB_size]; omega) w9)
        rw [HT.out sf HF.out.1 (fun _ h => h)] at C1
        rw [mkB_take] at T9
        have hg1 : decide ((F.length : Int) < (sf : Nat)) = false := decide_eq_false (by have := HF.out; omega)
        have hg2 : decide ((AL.length : Int) < (F.length : Nat)) = false := decide_eq_false (by have := HF.out; omega)
        have hg3 : decide (F.length < sf) = false := decide_eq_false (by have := HF.out; omega)
        have hg4 : decide (AL.length < F.length) = false := decide_eq_false (by have := HF.out; omega)
        have hb1 : AL.length ≤ 8192 := H8.out
        have hb2 : F.length ≤ 8192 := by have := HF.out; omega
        clear hs9 hl9
        go_wp2_with fail
        refine wp_region_class (Below wc.heap.size wc) (by kernel_rfl) (by kernel_rfl) (Below.refl _ _).drew ?_
        repeat (go_big_quiet_step (first | (intro _; rfl)))
        refine wpQuiet_upto_at rfl 29 (.tmp 106) (.tmp 107) rfl _ _ _ rfl rfl S9.out ?_
        simp only [Act.put, List.setIfInBounds_toArray, List.set_cons_succ, List.set_cons_zero]
        repeat (go_big_quiet_step (first | (intro _; rfl)))
        refine wpQuiet_conv_at rfl 29 9 (.tmp 108) rfl _ _ rfl C1.out ?_
        simp only [Act.put, List.setIfInBounds_toArray, List.set_cons_succ, List.set_cons_zero]
        repeat (go_big_quiet_step (first | (intro _; rfl)))
        refine wpQuiet_upto_at rfl 9 (.tmp 110) (.tmp 111) rfl _ _ _ rfl rfl T9.out ?_
        simp only [Act.put, List.setIfInBounds_toArray, List.set_cons_succ, List.set_cons_zero]
        repeat (go_big_quiet_step (first | (intro _; rfl)))
        refine wpQuiet_nil ?_
        intro wd hz
        have BD := Lib.hid (BW.out.trans (hz.mono BW.out.size))
        have hL8 := Lib.hid (hL.below hz)
        clear hz hL
        by_cases hc : sf < F.length
        · have hc1 : decide ((sf : Int) < (F.length : Nat)) = true := decide_eq_true (by omega)
          cases t
          · obtain ⟨p8, hs8, hl8⟩ := lat_upto hL8.out (n := F.length) (Nat.le_refl _)
            have C8 := Lib.hid (fun w9 (h : Below wd.heap.size wd w9) => lat_conv (hl8.below h))
            have S8 := Lib.hid hs8
            have T8 := Lib.hid (fun w9 => str_upto (mkB AL) (F.length) (by have := HF.out; rw [mkB_size]; omega) w9)
            rw [HT.out (F.length) (Nat.le_refl _) (by simp)] at C8
            rw [mkB_take] at T8
            clear hs8 hl8
            go_wp2_with fail
            refine wp_region_class (Below wd.heap.size wd) (by kernel_rfl) (by kernel_rfl) (Below.refl _ _).drew ?_
            repeat (go_big_quiet_step (first | (intro _; rfl)))
            refine wpQuiet_upto_at rfl 29 (.tmp 125) (.tmp 126) rfl _ _ _ rfl rfl S8.out ?_
            simp only [Act.put, List.setIfInBounds_toArray, List.set_cons_succ, List.set_cons_zero]
            repeat (go_big_quiet_step (first | (intro _; rfl)))
            refine wpQuiet_conv_at rfl 29 9 (.tmp 127) rfl _ _ rfl C8.out ?_
            simp only [Act.put, List.setIfInBounds_toArray, List.set_cons_succ, List.set_cons_zero]
            repeat (go_big_quiet_step (first | (intro _; rfl)))
            refine wpQuiet_upto_at rfl 9 (.tmp 129) (.tmp 130) rfl _ _ _ rfl rfl T8.out ?_
            simp only [Act.put, List.setIfInBounds_toArray, List.set_cons_succ, List.set_cons_zero]
            repeat (go_big_quiet_step (first | (intro _; rfl)))
            refine wpQuiet_nil ?_
            intro wz hz
            have BZ := Lib.hid (BD.out.trans (hz.mono BD.out.size))
            clear hz
            go_wp2_with fail
            go_ret
            exact ⟨rfl, BZ.out⟩
          · obtain ⟨p8, hs8, hl8⟩ := lat_upto hL8.out (n := F.length - 1) (by omega)
            have C8 := Lib.hid (fun w9 (h : Below wd.heap.size wd w9) => lat_conv (hl8.below h))
            have S8 := Lib.hid hs8
            have T8 := Lib.hid (fun w9 => str_upto (mkB AL) (F.length - 1) (by have := HF.out; rw [mkB_size]; omega) w9)
            rw [HT.out (F.length - 1) (by omega) (by omega)] at C8
            rw [mkB_take] at T8
            clear hs8 hl8
            have hcast : ((F.length : Int) - 1) = ((F.length - 1 : Nat) : Int) := by omega
            go_wp2_with fail
            refine wp_region_class (Below wd.heap.size wd) (by kernel_rfl) (by kernel_rfl) (Below.refl _ _).drew ?_
            repeat (go_big_quiet_step (first | (intro _; rfl)))
            refine wpQuiet_upto_at rfl 29 (.tmp 125) (.tmp 126) rfl _ _ _ rfl rfl S8.out ?_
            simp only [Act.put, List.setIfInBounds_toArray, List.set_cons_succ, List.set_cons_zero]
            repeat (go_big_quiet_step (first | (intro _; rfl)))
            refine wpQuiet_conv_at rfl 29 9 (.tmp 127) rfl _ _ rfl C8.out ?_
            simp only [Act.put, List.setIfInBounds_toArray, List.set_cons_succ, List.set_cons_zero]
            repeat (go_big_quiet_step (first | (intro _; rfl)))
            refine wpQuiet_upto_at rfl 9 (.tmp 129) (.tmp 130) rfl _ _ _ rfl rfl T8.out ?_
            simp only [Act.put, List.setIfInBounds_toArray, List.set_cons_succ, List.set_cons_zero]
            repeat (go_big_quiet_step (first | (intro _; rfl)))
            refine wpQuiet_nil ?_
            intro wz hz
            have BZ := Lib.hid (BD.out.trans (hz.mono BD.out.size))
            clear hz
            go_wp2_with fail
            go_ret
            exact ⟨rfl, BZ.out⟩
        · have hc1 : decide ((sf : Int) < (F.length : Nat)) = false := decide_eq_false (by omega)
          cases t
          · obtain ⟨p8, hs8, hl8⟩ := lat_upto hL8.out (n := F.length) (Nat.le_refl _)
            have C8 := Lib.hid (fun w9 (h : Below wd.heap.size wd w9) => lat_conv (hl8.below h))
            have S8 := Lib.hid hs8
            have T8 := Lib.hid (fun w9 => str_upto (mkB AL) (F.length) (by have := HF.out; rw [mkB_size]; omega) w9)
            rw [HT.out (F.length) (Nat.le_refl _) (by simp)] at C8
            rw [mkB_take] at T8
            clear hs8 hl8
            go_wp2_with fail
            refine wp_region_class (Below wd.heap.size wd) (by kernel_rfl) (by kernel_rfl) (Below.refl _ _).drew ?_
            repeat (go_big_quiet_step (first | (intro _; rfl)))
            refine wpQuiet_upto_at rfl 29 (.tmp 125) (.tmp 126) rfl _ _ _ rfl rfl S8.out ?_
            simp only [Act.put, List.setIfInBounds_toArray, List.set_cons_succ, List.set_cons_zero]
            repeat (go_big_quiet_step (first | (intro _; rfl)))
            refine wpQuiet_conv_at rfl 29 9 (.tmp 127) rfl _ _ rfl C8.out ?_
            simp only [Act.put, List.setIfInBounds_toArray, List.set_cons_succ, List.set_cons_zero]
            repeat (go_big_quiet_step (first | (intro _; rfl)))
            refine wpQuiet_upto_at rfl 9 (.tmp 129) (.tmp 130) rfl _ _ _ rfl rfl T8.out ?_
            simp only [Act.put, List.setIfInBounds_toArray, List.set_cons_succ, List.set_cons_zero]
            repeat (go_big_quiet_step (first | (intro _; rfl)))
            refine wpQuiet_nil ?_
            intro wz hz
            have BZ := Lib.hid (BD.out.trans (hz.mono BD.out.size))
            clear hz
            go_wp2_with fail
            go_ret
            exact ⟨rfl, BZ.out⟩
          · obtain ⟨p8, hs8, hl8⟩ := lat_upto hL8.out (n := F.length) (Nat.le_refl _)
            have C8 := Lib.hid (fun w9 (h : Below wd.heap.size wd w9) => lat_conv (hl8.below h))
            have S8 := Lib.hid hs8
            have T8 := Lib.hid (fun w9 => str_upto (mkB AL) (F.length) (by have := HF.out; rw [mkB_size]; omega) w9)
            rw [HT.out (F.length) (Nat.le_refl _) (by omega)] at C8
            rw [mkB_take] at T8
            clear hs8 hl8
            go_wp2_with fail
            refine wp_region_class (Below wd.heap.size wd) (by kernel_rfl) (by kernel_rfl) (Below.refl _ _).drew ?_
            repeat (go_big_quiet_step (first | (intro _; rfl)))
            refine wpQuiet_upto_at rfl 29 (.tmp 125) (.tmp 126) rfl _ _ _ rfl rfl S8.out ?_
            simp only [Act.put, List.setIfInBounds_toArray, List.set_cons_succ, List.set_cons_zero]
            repeat (go_big_quiet_step (first | (intro _; rfl)))
            refine wpQuiet_conv_at rfl 29 9 (.tmp 127) rfl _ _ rfl C8.out ?_
            simp only [Act.put, List.setIfInBounds_toArray, List.set_cons_succ, List.set_cons_zero]
            repeat (go_big_quiet_step (first | (intro _; rfl)))
            refine wpQuiet_upto_at rfl 9 (.tmp 129) (.tmp 130) rfl _ _ _ rfl rfl T8.out ?_
            simp only [Act.put, List.setIfInBounds_toArray, List.set_cons_succ, List.set_cons_zero]
            repeat (go_big_quiet_step (first | (intro _; rfl)))
            refine wpQuiet_nil ?_
            intro wz hz
            have BZ := Lib.hid (BD.out.trans (hz.mono BD.out.size))
            clear hz
            go_wp2_with fail
            go_ret
            exact ⟨rfl, BZ.out⟩
theorem loses_walk (u0 u1 : Value) (ts : List (List UInt8)) (sy : List Bool) (n k : Int) (t : Bool) (w : World) (h0 : Rows w 1 (bslR w) u0 ts) (h1 : Rows w 1 boolR u1 sy) (hn : -9223372036854775808 ≤ n ∧ n ≤ 9223372036854775807) : Calls Try.prog 4 #[u0, u1, .int .i64 n, .int .i64 k, .bool t] w (LawEnd w) := by
  by_cases hg : 40 < ts.length ∨ sy.length < ts.length
  · exact loses_out u0 u1 ts sy n k t w h0 h1 hg
  · exact loses_in u0 u1 ts sy n k t w h0 h1 hn (by omega) (by omega)
end Go.Proofs.Ytfmcemedaehcoaa
