/- The entries alone are written anew. -/
import Derived.Test.YtbdlmdmbaajcmaaZn
namespace Go.Proofs.Ytbdlmdmbaajcmaa
set_option linter.unusedVariables false
set_option linter.unusedSimpArgs false
open Go.ChangeShapes Go.WideShapes Go.ChangeAt Go.RowKit

theorem logR_ok {n : Nat} {h : Hd} {A : List Ab} (ok : DvOk n h A) (nd : (A.map (·.1)).Nodup) (nm : ByteArray) (cc : List UInt8) : DvOk (n + 1) (logR h A nm cc).2.1 (logR h A nm cc).2.2 := by
  unfold logR
  by_cases he : logE h A nm cc = 0
  · refine ok.step ?_ (Nat.le_trans (apd_len _ _ _) (by have := ok.l; omega))
    rw [tot_apd nd]
    unfold logE at he
    have h3 := ok.room
    split at he
    · rename_i hr; exact absurd he hr
    · split at he
      · cases he
      · omega
  · rw [step_pre he]
    exact ok.more (by omega)
theorem syncR_ok {n : Nat} {h : Hd} {A : List Ab} (ok : DvOk n h A) (nd : (A.map (·.1)).Nodup) (nm : ByteArray) : DvOk (n + 1) (syncR h A nm).2.1 (syncR h A nm).2.2 := by
  refine ok.step (by rw [tot_syn nd]; exact ok.t) ?_
  unfold synA
  split
  · exact Nat.le_trans len_upd (by have := ok.l; omega)
  · have := ok.l; omega
def renR (h : Hd) (A : List Ab) (x y : ByteArray) : Int × Hd × List Ab := stepA h A (renA A x y) (if findA h A x ≠ 0 then findA h A x else if goodN y = true then 0 else 1) 1
theorem renR_ok {n : Nat} {h : Hd} {A : List Ab} (ok : DvOk n h A) (nd : (A.map (·.1)).Nodup) (x y : ByteArray) : DvOk (n + 1) (renR h A x y).2.1 (renR h A x y).2.2 := by
  refine ok.step (Nat.le_trans (tot_ren nd) ok.t) ?_
  unfold renA
  split
  · have := drpA_len A x; exact Nat.le_trans len_upd (by have := ok.l; omega)
  · have := ok.l; omega
theorem KvTo.split {TD TS : Nat → Prop} {b d : Nat} {nm : ByteArray} {m : Int} {h : Hd} {A : List Ab} {L : List En} {w w1 : World} (k1 : KvTo TD TS b d nm m h A L w w1) : ∃ TD1 TS1, Kv TD1 TS1 b d nm m h A L w1 ∧ ∀ h2 A2 L2 w2, KvTo TD1 TS1 b d nm m h2 A2 L2 w1 w2 → KvTo TD TS b d nm m h2 A2 L2 w w2 := by
  obtain ⟨TD1, TS1, q1, q2, q3, q4⟩ := k1
  refine ⟨TD1, TS1, q1, fun h2 A2 L2 w2 k2 => ?_⟩
  obtain ⟨TD2, TS2, r1, r2, r3, r4⟩ := k2
  refine ⟨TD2, TS2, r1, fun k hk => ?_, fun k hk => ?_, q4.trans (r4.mono fun k hk => ?_)⟩
  · exact Gr.step q4.size r4.size k (Gr.mono q2 k (r2 k hk))
  · exact Gr.step q4.size r4.size k (Gr.mono q3 k (r3 k hk))
  · rcases hk with hk | hk
    · exact (q2 k hk).imp .inl id
    · exact (q3 k hk).imp .inr id
/-- What a Compact comes to. -/
def compC (r : Int × Hd × List Ab) (nm : ByteArray) : Int × Hd × List Ab := if r.1 ≠ 0 then r else renR r.2.1 r.2.2 (nm ++ wNew) nm
def compB (r : Int × Hd × List Ab) (nm : ByteArray) : Int × Hd × List Ab := if r.1 ≠ 0 then r else compC (syncR r.2.1 r.2.2 (nm ++ wNew)) nm
def compOut (h : Hd) (A : List Ab) (nm : ByteArray) (L : List En) : Int × Hd × List Ab := compB (logR h A (nm ++ wNew) (G.recsL (L.map putB))) nm
set_option maxRecDepth 100000 in
set_option maxHeartbeats 2000000 in
/-- The entries alone are written anew. -/
theorem compact_any {TD TS : Nat → Prop} {b d : Nat} {nm : ByteArray} {m : Int} {h : Hd} {A : List Ab} {L : List En} {w : World} {n : Nat} (kv : Kv TD TS b d nm m h A L w) (ok : DvOk n h A) (hn : n ≤ 999990) (hns : nm.size ≤ 28) (hl : L.length ≤ 8192) (hkey : ∀ e ∈ L, e.1.size ≤ 1048576 ∧ e.2.size ≤ 1048576) (hz : G.total (L.map putB) + 8 * L.length ≤ 16777216) :
    Calls Try.prog 21 #[.pointer (some ⟨b, 0, none⟩)] w (LogEnd TD TS b d nm m (compOut h A nm L) L L w) := by
  obtain ⟨cc, hcc⟩ : ∃ cc, cc = G.recsL (L.map putB) := ⟨_, rfl⟩
  have hcl : cc.length ≤ 16777216 := by rw [hcc]; have := G.recsL_le (L.map putB); rw [List.length_map] at this; omega
  have HPut := Lib.hid (show ∀ (w1 : World) u, Strs w1 u (L.map putB) → Calls Try.prog 47 #[.slice none 0 0, u] w1 (fun e w'' => ∃ v', e = .returned v' ∧ w''.ownsRow w1.heap.size 5 1 v' cc.length (G.cellsL cc) ∧ Below w1.heap.size w1 w'') from fun w1 u hu => by
    have := G.put_any (.slice none 0 0) u [] (L.map putB) w1 (byts_nil w1) hu (by rw [List.length_map]; simp only [List.length_nil]; omega)
    rw [List.nil_append, ← hcc] at this
    exact this)
  unfold compOut
  rw [← hcc]
  have hnz : nm.size ≤ 9223372036854775803 := by omega
  have Hcl := Lib.hid hcl
  clear hcl hcc hz
  have HKv0 := Lib.hid kv
  have Hok := Lib.hid ok
  have HK := Lib.hid hkey
  obtain ⟨lv0, h1, h2, h3⟩ := kv.st.f
  have hlat := LAt.own (fun x _ => enV_len x) h2
  obtain ⟨p, c, rfl, hp⟩ := gen_shape hlat
  have HL := Lib.hid hlat
  have c3 := block_cell h1 3
  rw [show (stA d nm m (.slice p L.length c))[3]? = some (.slice p L.length c) from rfl] at c3
  have hbl := lt_of_block h1
  obtain ⟨i0, z0, hi, hz0, hz1, hz2, _⟩ := eltS.inf
  clear h2 h3 hlat h1 kv ok hkey
  go_enter Try.func21, Try.ntmps21
  go_wp2_with (first | (at_make; refine wpList_make_own _ rfl _ _ 49 rfl w.heap.size 9 i0 z0 1 Try.underlying49 hi hz0 hz1 .i64 .i64 _ L.length rfl rfl rfl (by rw [hz2]; omega) (by unfold maxLen; omega) (Nat.le_refl _) ?_; intro w1 ho1 hg1; have Ho1 := Lib.hid ho1; have hB1 : Below w.heap.size w w1 := ⟨hg1.os, hg1.tape, hg1.output, hg1.size, fun k hk => hg1.block k hk (by simp)⟩; have HB1 := Lib.hid hB1; have d3 := (hB1.cell (p := ⟨b, 3, none⟩) hbl).trans c3; clear ho1 hg1 hB1))
  go_loopg [3, 5, 21] L.length (fun g v _ iv wr => ∃ j : Nat, j + g = L.length ∧ iv = .int .i64 j ∧ Hid (wr.ownsRow w.heap.size 9 1 v ((L.take j).map putB).length (LF (fun s : ByteArray => [Value.string s]) ((L.take j).map putB))) ∧ Hid (Below w.heap.size w wr))
  case atStart => exact ⟨0, by omega, rfl, Ho1, HB1⟩
  case round =>
    obtain ⟨j, hjg, rfl, HO, HB⟩ := hrel
    by_cases hj : j < L.length
    · have hjI : (j : Int) < (L.length : Int) := by omega
      obtain ⟨g0, off, rfl⟩ := hp (by omega)
      obtain ⟨x1, x2, hx⟩ : ∃ x1 x2, L[j] = (x1, x2) := ⟨_, _, rfl⟩
      have hxi : L[j]? = some (x1, x2) := by rw [List.getElem?_eq_getElem hj, hx]
      obtain ⟨hg, hc0, hc1⟩ := HL.out.cellsN hxi
      have e0 := (HB.out.cell (p := ⟨g0, off + j * 2, none⟩) hg).trans hc0
      have e1 := (HB.out.cell (p := ⟨g0, off + j * 2 + 1, none⟩) hg).trans hc1
      obtain ⟨hbB, hbh⟩ := box2 wr x1 x2
      have b0 := block_cell hbh 0
      have b1 := block_cell hbh 1
      have HO2 := Lib.hid (gen_own_below HO.out hbB)
      have HB2 := Lib.hid (HB.out.trans (hbB.mono HB.out.size))
      have HG := Lib.hid (show (L.take (j + 1)).map putB = (L.take j).map putB ++ [putB (x1, x2)] from by rw [List.take_add_one, hxi, List.map_append]; rfl)
      have hxs := HK.out (x1, x2) (List.mem_of_getElem? hxi)
      have HPr := Lib.hid (fun w5 => putRecord_any x1 x2 w5 (by have := hxs.1; dsimp only at this; omega) (by have := hxs.2; dsimp only at this; omega))
      clear hx hxi hc0 hc1 hbB hbh hxs
      generalize putB (x1, x2) = rr at *
      go_upto_region 7 with fail
      generalize wr.alloc (.cells #[.string x1, .string x2] 92) = w2 at *
      have hG0l : ((L.take j).map putB).length = j := by rw [List.length_map, List.length_take]; omega
      generalize hG0 : (L.take j).map putB = G0 at *
      have hjb : G0.length + 1 ≤ 8388609 := by omega
      clear hG0
      have Hjl := Lib.hid hG0l
      clear hG0l HO HB e0 e1
      go_wp2_with fail
      refine (HPr.out _).mono ?_
      rintro e w3 ⟨rfl, hB3⟩
      have HB3 := Lib.hid (HB2.out.trans (hB3.mono HB2.out.size))
      have HO3 := Lib.hid (gen_own_below HO2.out hB3)
      have hsz3 := HB3.out.size
      clear hB3 HPr
      go_wp2_with (at_builtin; go_must (refine wpList_append_gen eltS rfl (.tmp 25) (.tmp 28) rfl rfl w.heap.size _ G0 rfl (gen_own_below HO3.out ((Below.refl w3.heap.size w3).alloc (Nat.le_refl _) (.cells #[.string rr] 9))) _ [rr] (LAt.block rfl rfl (heap_alloc_new w3 (.cells #[.string rr] 9))) rfl (by simp only [List.length_cons, List.length_nil]; omega) (by unfold maxLen; simp only [List.length_cons, List.length_nil]; omega) (by simp; omega) ?_); intro v4 w4 hown4 hgrow4)
      have HB4 := Lib.hid ((HB3.out.trans (((Below.refl w3.heap.size w3).alloc (Nat.le_refl _) (.cells #[.string rr] 9)).mono HB3.out.size)).grown hgrow4 (by simp; omega) (fun k hk => (HO3.out.lt k hk).1))
      go_roundg (gk - 1)
      case measure => omega
      case rel =>
        refine ⟨j + 1, by omega, by go_num, Lib.hid ?_, HB4⟩
        rw [HG.out]
        exact hown4
    · obtain rfl : j = L.length := by omega
      have hjI : ¬ (L.length : Int) < (L.length : Int) := by omega
      have HE := Lib.hid (show L.take L.length = L from List.take_length)
      have ho := HO.out
      rw [HE.out, LF_strs] at ho
      obtain ⟨⟨pu, cu, hu⟩, _⟩ := parts_cells ho
      subst hu
      have hstr : Strs wr _ (L.map putB) := Strs.ofRow ho
      have hkv := HKv0.out.below HB.out
      have hB0 := HB.out
      have hok := Hok.out
      have HPut2 := Lib.hid (fun fw (hfw : Below wr.heap.size wr fw) => HPut.out fw _ (hstr.below hfw))
      have HApp := Lib.hid (app_at (nm := nm ++ wNew) (cc := cc) hkv.dv hkv.ld (hok.hd (by omega)) hok.t (by have := hok.l; omega) Hcl.out)
      have HKv := Lib.hid hkv
      have Hok1 := Lib.hid (logR_ok hok hkv.dv.nd (nm ++ wNew) cc)
      obtain ⟨lv, hbox, _⟩ := hkv.st.f
      have hlt := lt_of_block hbox
      have HB0 := Lib.hid hB0
      clear ho hstr hkv hB0 hok HE HO HB HPut HL HKv0 c3
      generalize logR h A (nm ++ wNew) cc = r9 at *
      obtain ⟨e9, h9, A9⟩ := r9
      go_upto_region 9 with fail
      obtain ⟨w10, rfl⟩ : ∃ x, x = wr := ⟨_, rfl⟩
      have hd4 : Below w10.heap.size w10 w10.drew := (Below.refl _ _).drew
      have hRL : ∃ Rs : List (Value → World → Prop), Rs = [K3.PureV (.pointer (some ⟨b, 0, none⟩)),
          K3.PureV (.pointer (some ⟨b, 0, none⟩)),
          K3.PureV (.pointer (some ⟨b, 0, none⟩)),
          K3.PureV (.pointer (some ⟨d, 0, none⟩)),
          K3.PureV (.pointer (some ⟨b, 0, none⟩)),
          K3.PureV (.pointer (some ⟨b, 0, none⟩)),
          K3.PureV (.pointer (some ⟨b, 1, none⟩)),
          K3.PureV (.string nm),
          K3.PureV (.string (nm ++ wNew)),
          K3.PureV (.slice pu (L.map putB).length cu),
          PutW w10 cc,
          AppW TD d (e9, h9, A9) w10,
          AppW TD d (e9, h9, A9) w10] := ⟨_, rfl⟩
      obtain ⟨Rs, hRs⟩ := hRL
      refine K3.wp_region_rel2 0 (Nat.zero_le _) (K3.RL Rs) [2, 2, 2, 2, 2, 2, 2, 2, 2, 2, 1, 1, 1] [1, 1, 1, 1, 1, 1, 1, 1, 1, 1, 1, 2, 1] [[], [], [], [], [], [], [], [], [], [], [], [10], []] (by kernel_rfl) (by kernel_rfl) (K3.RL.st1 (by rw [hRs]; exact K3.st1_cons (K3.PureV.st1 _) (K3.st1_cons (K3.PureV.st1 _) (K3.st1_cons (K3.PureV.st1 _) (K3.st1_cons (K3.PureV.st1 _) (K3.st1_cons (K3.PureV.st1 _) (K3.st1_cons (K3.PureV.st1 _) (K3.st1_cons (K3.PureV.st1 _) (K3.st1_cons (K3.PureV.st1 _) (K3.st1_cons (K3.PureV.st1 _) (K3.st1_cons (K3.PureV.st1 _) (K3.st1_cons (PutW.st1 _ _) (K3.st1_cons (AppW.st1 _ _ _ _) (K3.st1_cons (AppW.st1 _ _ _ _) (K3.st1_nil))))))))))))))) (K3.RL.st2 (by rw [hRs]; exact K3.st2_cons (K3.PureV.st2 _ _ _) (K3.st2_cons (K3.PureV.st2 _ _ _) (K3.st2_cons (K3.PureV.st2 _ _ _) (K3.st2_cons (K3.PureV.st2 _ _ _) (K3.st2_cons (K3.PureV.st2 _ _ _) (K3.st2_cons (K3.PureV.st2 _ _ _) (K3.st2_cons (K3.PureV.st2 _ _ _) (K3.st2_cons (K3.PureV.st2 _ _ _) (K3.st2_cons (K3.PureV.st2 _ _ _) (K3.st2_cons (K3.PureV.st2 _ _ _) (K3.st2_skip (K3.st2_skip (K3.st2_skip (K3.st2_nil))))))))))))))) ?_ ?_ ?_
      · intro i o d hi hd
        have hmem := List.mem_of_getElem? hi
        simp only [List.mem_cons, List.not_mem_nil, or_false] at hmem
        rcases hmem with rfl | rfl | rfl | rfl | rfl | rfl | rfl | rfl | rfl | rfl | rfl | rfl | rfl <;> simp at hd <;> (subst hd; simp)
      · refine K3.rel_start (Φ := K3.Hop _ _ _ _ _ _ _) ?_
        refine K3.rel_cons (Φ := K3.Hop _ _ _ _ _ _ _) (k := 0) ?_ ?_
        · intro fa fw hfB hfN hfE hfk hft
          have k0 : fa.eval (.tmp 0) = .pointer (some ⟨b, 0, none⟩) := hft 0 (K3.mem_looks (by kernel_rfl)) (K3.noneed (by kernel_rfl))
          rw [hRs]
          refine K3.hop_plain rfl ?_
          refine K3.out_move rfl ?_
          exact ⟨k0, Below.refl _ _⟩
        refine K3.rel_cons (Φ := K3.Hop _ _ _ _ _ _ _) (k := 1) ?_ ?_
        · intro fa fw hfB hfN hfE hfk hft
          have k31 : fa.eval (.tmp 31) = (.pointer (some ⟨b, 0, none⟩)) := by have := hfk 0 (K3.mem_needs (by kernel_rfl)) _ rfl; rw [hRs] at this; exact this
          rw [hRs]
          refine K3.hop_plain rfl ?_
          have kc : ∀ v, fa.eval (.const v) = v := fun _ => rfl
          generalize fa.eval = ρ at *
          exact K3.out_run (v := .pointer (some ⟨b, 0, none⟩)) (w' := fw) (by simp [execOp, kc, k31, hnz, go_sem]) ⟨rfl, Below.refl _ _⟩
        refine K3.rel_cons (Φ := K3.Hop _ _ _ _ _ _ _) (k := 2) ?_ ?_
        · intro fa fw hfB hfN hfE hfk hft
          have k32 : fa.eval (.tmp 32) = (.pointer (some ⟨b, 0, none⟩)) := by have := hfk 1 (K3.mem_needs (by kernel_rfl)) _ rfl; rw [hRs] at this; exact this
          rw [hRs]
          refine K3.hop_plain rfl ?_
          have kc : ∀ v, fa.eval (.const v) = v := fun _ => rfl
          generalize fa.eval = ρ at *
          exact K3.out_run (v := .pointer (some ⟨b, 0, none⟩)) (w' := fw) (by simp [execOp, kc, k32, hnz, go_sem]) ⟨rfl, Below.refl _ _⟩
        refine K3.rel_cons (Φ := K3.Hop _ _ _ _ _ _ _) (k := 3) ?_ ?_
        · intro fa fw hfB hfN hfE hfk hft
          have hE : Below w10.drew.heap.size w10.drew fw := hfE (by kernel_rfl)
          have k33 : fa.eval (.tmp 33) = (.pointer (some ⟨b, 0, none⟩)) := by have := hfk 2 (K3.mem_needs (by kernel_rfl)) _ rfl; rw [hRs] at this; exact this
          rw [hRs]
          refine K3.hop_plain rfl ?_
          have hbx := (hE.block b (Nat.lt_of_lt_of_le hlt hd4.size)).trans (show w10.drew.heap[b]? = _ from hbox)
          exact out_load3 rfl k33 (by simp [stA, go_sem, block_cell hbx]) ⟨rfl, Below.refl _ _⟩
        refine K3.rel_cons (Φ := K3.Hop _ _ _ _ _ _ _) (k := 4) ?_ ?_
        · intro fa fw hfB hfN hfE hfk hft
          have k0 : fa.eval (.tmp 0) = .pointer (some ⟨b, 0, none⟩) := hft 0 (K3.mem_looks (by kernel_rfl)) (K3.noneed (by kernel_rfl))
          rw [hRs]
          refine K3.hop_plain rfl ?_
          refine K3.out_move rfl ?_
          exact ⟨k0, Below.refl _ _⟩
        refine K3.rel_cons (Φ := K3.Hop _ _ _ _ _ _ _) (k := 5) ?_ ?_
        · intro fa fw hfB hfN hfE hfk hft
          have k35 : fa.eval (.tmp 35) = (.pointer (some ⟨b, 0, none⟩)) := by have := hfk 4 (K3.mem_needs (by kernel_rfl)) _ rfl; rw [hRs] at this; exact this
          rw [hRs]
          refine K3.hop_plain rfl ?_
          have kc : ∀ v, fa.eval (.const v) = v := fun _ => rfl
          generalize fa.eval = ρ at *
          exact K3.out_run (v := .pointer (some ⟨b, 0, none⟩)) (w' := fw) (by simp [execOp, kc, k35, hnz, go_sem]) ⟨rfl, Below.refl _ _⟩
        refine K3.rel_cons (Φ := K3.Hop _ _ _ _ _ _ _) (k := 6) ?_ ?_
        · intro fa fw hfB hfN hfE hfk hft
          have k36 : fa.eval (.tmp 36) = (.pointer (some ⟨b, 0, none⟩)) := by have := hfk 5 (K3.mem_needs (by kernel_rfl)) _ rfl; rw [hRs] at this; exact this
          rw [hRs]
          refine K3.hop_plain rfl ?_
          have kc : ∀ v, fa.eval (.const v) = v := fun _ => rfl
          generalize fa.eval = ρ at *
          exact K3.out_run (v := .pointer (some ⟨b, 1, none⟩)) (w' := fw) (by simp [execOp, kc, k36, hnz, go_sem]) ⟨rfl, Below.refl _ _⟩
        refine K3.rel_cons (Φ := K3.Hop _ _ _ _ _ _ _) (k := 7) ?_ ?_
        · intro fa fw hfB hfN hfE hfk hft
          have hE : Below w10.drew.heap.size w10.drew fw := hfE (by kernel_rfl)
          have k37 : fa.eval (.tmp 37) = (.pointer (some ⟨b, 1, none⟩)) := by have := hfk 6 (K3.mem_needs (by kernel_rfl)) _ rfl; rw [hRs] at this; exact this
          rw [hRs]
          refine K3.hop_plain rfl ?_
          have hbx := (hE.block b (Nat.lt_of_lt_of_le hlt hd4.size)).trans (show w10.drew.heap[b]? = _ from hbox)
          exact out_load3 rfl k37 (by simp [stA, go_sem, block_cell hbx]) ⟨rfl, Below.refl _ _⟩
        refine K3.rel_cons (Φ := K3.Hop _ _ _ _ _ _ _) (k := 8) ?_ ?_
        · intro fa fw hfB hfN hfE hfk hft
          have k38 : fa.eval (.tmp 38) = (.string nm) := by have := hfk 7 (K3.mem_needs (by kernel_rfl)) _ rfl; rw [hRs] at this; exact this
          rw [hRs]
          refine K3.hop_plain rfl ?_
          have kc : ∀ v, fa.eval (.const v) = v := fun _ => rfl
          generalize fa.eval = ρ at *
          exact K3.out_run (v := .string (nm ++ wNew)) (w' := fw) (by simp [execOp, kc, k38, hnz, go_sem]) ⟨rfl, Below.refl _ _⟩
        refine K3.rel_cons (Φ := K3.Hop _ _ _ _ _ _ _) (k := 9) ?_ ?_
        · intro fa fw hfB hfN hfE hfk hft
          have k3 : fa.eval (.tmp 3) = .slice pu (L.map putB).length cu := hft 3 (K3.mem_looks (by kernel_rfl)) (K3.noneed (by kernel_rfl))
          rw [hRs]
          refine K3.hop_plain rfl ?_
          refine K3.out_move rfl ?_
          exact ⟨k3, Below.refl _ _⟩
        refine K3.rel_cons (Φ := K3.Hop _ _ _ _ _ _ _) (k := 10) ?_ ?_
        · intro fa fw hfB hfN hfE hfk hft
          have hE : Below w10.drew.heap.size w10.drew fw := hfE (by kernel_rfl)
          have k40 : fa.eval (.tmp 40) = (.slice pu (L.map putB).length cu) := by have := hfk 9 (K3.mem_needs (by kernel_rfl)) _ rfl; rw [hRs] at this; exact this
          rw [hRs]
          refine K3.hop_plain rfl ?_
          have kf : fa.eval (.func 47) = .func (.func 47) #[] #[] := rfl
          have kc : ∀ v, fa.eval (.const v) = v := fun _ => rfl
          have hE2 := hd4.trans (hE.mono hd4.size)
          refine K3.out_call (f := 47) (args := #[.slice none 0 0, .slice pu (L.map putB).length cu]) (by generalize fa.eval = ρ at *; simp [execOp, k40, kf, kc, go_sem]) ?_
          exact (HPut2.out fw hE2).mono fun e w'' ⟨v', h1, h2, h3⟩ => ⟨v', h1, ⟨own_base h2 hE2.size, hE2.trans (h3.mono hE2.size)⟩, h3⟩
        refine K3.rel_cons (Φ := K3.Hop _ _ _ _ _ _ _) (k := 11) ?_ ?_
        · intro fa fw hfB hfN hfE hfk hft
          have k34 : fa.eval (.tmp 34) = (.pointer (some ⟨d, 0, none⟩)) := by have := hfk 3 (K3.mem_needs (by kernel_rfl)) _ rfl; rw [hRs] at this; exact this
          have k39 : fa.eval (.tmp 39) = (.string (nm ++ wNew)) := by have := hfk 8 (K3.mem_needs (by kernel_rfl)) _ rfl; rw [hRs] at this; exact this
          have k41 : (PutW w10 cc) (fa.eval (.tmp 41)) fw := by have := hfk 10 (K3.mem_needs (by kernel_rfl)) _ rfl; rw [hRs] at this; exact this
          rw [hRs]
          refine K3.hop_plain rfl ?_
          have kf : fa.eval (.func 46) = .func (.func 46) #[] #[] := rfl
          have kc : ∀ v, fa.eval (.const v) = v := fun _ => rfl
          obtain ⟨po, pb⟩ := k41
          refine K3.out_call (f := 46) (args := #[.pointer (some ⟨d, 0, none⟩), .string (nm ++ wNew), fa.eval (.tmp 41)]) (by generalize fa.eval = ρ at *; simp [execOp, k34, k39, kf, kc, go_sem]) ?_
          exact (HApp.out fw (fa.eval (.tmp 41)) po pb).mono fun e w'' ⟨h1, h2, h3⟩ => ⟨_, h1, ⟨rfl, h2.1, h2.2⟩, h3⟩
        refine K3.rel_cons (Φ := K3.Hop _ _ _ _ _ _ _) (k := 12) ?_ ?_
        · intro fa fw hfB hfN hfE hfk hft
          have k42 : (AppW TD d (e9, h9, A9) w10) (fa.eval (.tmp 42)) fw := by have := hfk 11 (K3.mem_needs (by kernel_rfl)) _ rfl; rw [hRs] at this; exact this
          rw [hRs]
          refine K3.hop_plain rfl ?_
          refine K3.out_assign rfl ?_
          exact ⟨k42, Below.refl _ _⟩
        exact K3.rel_nil
      · intro fa fw hfB hfy hff hfs hfd
        rw [hRs] at hfy
        have k6 : (AppW TD d (e9, h9, A9) w10) (fa.tmps.getD 6 undef) fw := hfy 12 _ rfl (K3.unkilled (by decide))
        have e := K3.rel_frame [31, 32, 33, 34, 35, 36, 37, 38, 39, 40, 41, 42, 6] (by kernel_rfl) hff hfs hfd
        simp only [List.foldl] at e
        clear hfy hff hfs hfd 
        generalize fa.tmps.getD 31 undef = x31 at e
        generalize fa.tmps.getD 32 undef = x32 at e
        generalize fa.tmps.getD 33 undef = x33 at e
        generalize fa.tmps.getD 34 undef = x34 at e
        generalize fa.tmps.getD 35 undef = x35 at e
        generalize fa.tmps.getD 36 undef = x36 at e
        generalize fa.tmps.getD 37 undef = x37 at e
        generalize fa.tmps.getD 38 undef = x38 at e
        generalize fa.tmps.getD 39 undef = x39 at e
        generalize fa.tmps.getD 40 undef = x40 at e
        generalize fa.tmps.getD 41 undef = x41 at e
        generalize fa.tmps.getD 42 undef = x42 at e
        generalize fa.tmps.getD 6 undef = x6 at e k6
        simp [List.setIfInBounds_toArray, List.set_cons_succ, List.set_cons_zero] at e
        subst e
        obtain ⟨ke, kd, kk⟩ := k6
        rw [ke]
        have HTo := Lib.hid (HKv.out.dev kd kk)
        clear ke kd kk hfB HPut2 HApp
        by_cases h0 : e9 = 0
        case neg =>
          have hne : (e9 != 0) = true := bne_iff_ne.2 h0
          have HE := Lib.hid (show LogEnd TD TS b d nm m (compB (e9, h9, A9) nm) L L w (.returned (.int .i64 e9)) fw from by
            unfold compB
            rw [if_pos h0]
            exact LogEnd.pre (LogEnd.err (r := (e9, h9, A9)) HTo.out) HB0.out)
          clear h0
          go_wp2_with fail
          go_ret
          exact HE.out
        subst h0
        have HQ := Lib.hid (show compB (0, h9, A9) nm = compC (syncR h9 A9 (nm ++ wNew)) nm from by unfold compB; rw [if_neg (by simp)])
        clear hbox hlt hd4
        obtain ⟨TD1, TS1, kv1, hn1⟩ := HTo.out.split
        have HKv1 := Lib.hid kv1
        have HN1 := Lib.hid hn1
        have HSy := Lib.hid (cr_at kv1.ld (fun fw hB => cSync (kv1.dv.below hB) (fun k hk => Nat.lt_of_lt_of_le (kv1.ld k hk) hB.size) (Hok1.out.hd (by omega)) Hok1.out.t (nm ++ wNew)))
        have Hok2 := Lib.hid (syncR_ok Hok1.out kv1.dv.nd (nm ++ wNew))
        obtain ⟨lv1, hbox, _⟩ := kv1.st.f
        have hlt := lt_of_block hbox
        clear kv1 hn1
        obtain ⟨r8, hr8⟩ : ∃ r8, r8 = syncR h9 A9 (nm ++ wNew) := ⟨_, rfl⟩
        rw [← hr8] at Hok2 HQ
        rw [show stepA h9 A9 (synA A9 (nm ++ wNew)) (findA h9 A9 (nm ++ wNew)) 2 = r8 from hr8.symm] at HSy
        clear hr8
        obtain ⟨e8, h8, A8⟩ := r8
        go_upto_region 12 with fail
        obtain ⟨w11, rfl⟩ : ∃ x, x = fw := ⟨_, rfl⟩
        have hd4 : Below w11.heap.size w11 w11.drew := (Below.refl _ _).drew
        have hRL : ∃ Rs : List (Value → World → Prop), Rs = [K3.PureV (.pointer (some ⟨b, 0, none⟩)),
            K3.PureV (.pointer (some ⟨b, 0, none⟩)),
            K3.PureV (.pointer (some ⟨b, 0, none⟩)),
            AtW w11 (.pointer (some ⟨d, 0, none⟩)),
            K3.PureV (.pointer (some ⟨b, 0, none⟩)),
            K3.PureV (.pointer (some ⟨b, 0, none⟩)),
            K3.PureV (.pointer (some ⟨b, 1, none⟩)),
            K3.PureV (.string nm),
            K3.PureV (.string (nm ++ wNew)),
            AppW TD1 d (e8, h8, A8) w11,
            AppW TD1 d (e8, h8, A8) w11] := ⟨_, rfl⟩
        obtain ⟨Rs, hRs⟩ := hRL
        refine K3.wp_region_rel2 0 (Nat.zero_le _) (K3.RL Rs) [2, 2, 2, 1, 2, 2, 2, 2, 2, 1, 1] [1, 1, 1, 1, 1, 1, 1, 1, 1, 2, 1] [[], [], [], [], [], [], [], [], [], [3], []] (by kernel_rfl) (by kernel_rfl) (K3.RL.st1 (by rw [hRs]; exact K3.st1_cons (K3.PureV.st1 _) (K3.st1_cons (K3.PureV.st1 _) (K3.st1_cons (K3.PureV.st1 _) (K3.st1_cons (AtW.st1 _ _) (K3.st1_cons (K3.PureV.st1 _) (K3.st1_cons (K3.PureV.st1 _) (K3.st1_cons (K3.PureV.st1 _) (K3.st1_cons (K3.PureV.st1 _) (K3.st1_cons (K3.PureV.st1 _) (K3.st1_cons (AppW.st1 _ _ _ _) (K3.st1_cons (AppW.st1 _ _ _ _) (K3.st1_nil))))))))))))) (K3.RL.st2 (by rw [hRs]; exact K3.st2_cons (K3.PureV.st2 _ _ _) (K3.st2_cons (K3.PureV.st2 _ _ _) (K3.st2_cons (K3.PureV.st2 _ _ _) (K3.st2_skip (K3.st2_cons (K3.PureV.st2 _ _ _) (K3.st2_cons (K3.PureV.st2 _ _ _) (K3.st2_cons (K3.PureV.st2 _ _ _) (K3.st2_cons (K3.PureV.st2 _ _ _) (K3.st2_cons (K3.PureV.st2 _ _ _) (K3.st2_skip (K3.st2_skip (K3.st2_nil))))))))))))) ?_ ?_ ?_
        · intro i o d hi hd
          have hmem := List.mem_of_getElem? hi
          simp only [List.mem_cons, List.not_mem_nil, or_false] at hmem
          rcases hmem with rfl | rfl | rfl | rfl | rfl | rfl | rfl | rfl | rfl | rfl | rfl <;> simp at hd <;> (subst hd; simp)
        · refine K3.rel_start (Φ := K3.Hop _ _ _ _ _ _ _) ?_
          refine K3.rel_cons (Φ := K3.Hop _ _ _ _ _ _ _) (k := 0) ?_ ?_
          · intro fa fw hfB hfN hfE hfk hft
            have k0 : fa.eval (.tmp 0) = .pointer (some ⟨b, 0, none⟩) := hft 0 (K3.mem_looks (by kernel_rfl)) (K3.noneed (by kernel_rfl))
            rw [hRs]
            refine K3.hop_plain rfl ?_
            refine K3.out_move rfl ?_
            exact ⟨k0, Below.refl _ _⟩
          refine K3.rel_cons (Φ := K3.Hop _ _ _ _ _ _ _) (k := 1) ?_ ?_
          · intro fa fw hfB hfN hfE hfk hft
            have k46 : fa.eval (.tmp 46) = (.pointer (some ⟨b, 0, none⟩)) := by have := hfk 0 (K3.mem_needs (by kernel_rfl)) _ rfl; rw [hRs] at this; exact this
            rw [hRs]
            refine K3.hop_plain rfl ?_
            have kc : ∀ v, fa.eval (.const v) = v := fun _ => rfl
            generalize fa.eval = ρ at *
            exact K3.out_run (v := .pointer (some ⟨b, 0, none⟩)) (w' := fw) (by simp [execOp, kc, k46, hnz, go_sem]) ⟨rfl, Below.refl _ _⟩
          refine K3.rel_cons (Φ := K3.Hop _ _ _ _ _ _ _) (k := 2) ?_ ?_
          · intro fa fw hfB hfN hfE hfk hft
            have k47 : fa.eval (.tmp 47) = (.pointer (some ⟨b, 0, none⟩)) := by have := hfk 1 (K3.mem_needs (by kernel_rfl)) _ rfl; rw [hRs] at this; exact this
            rw [hRs]
            refine K3.hop_plain rfl ?_
            have kc : ∀ v, fa.eval (.const v) = v := fun _ => rfl
            generalize fa.eval = ρ at *
            exact K3.out_run (v := .pointer (some ⟨b, 0, none⟩)) (w' := fw) (by simp [execOp, kc, k47, hnz, go_sem]) ⟨rfl, Below.refl _ _⟩
          refine K3.rel_cons (Φ := K3.Hop _ _ _ _ _ _ _) (k := 3) ?_ ?_
          · intro fa fw hfB hfN hfE hfk hft
            have hE : Below w11.drew.heap.size w11.drew fw := hfE (by kernel_rfl)
            have k48 : fa.eval (.tmp 48) = (.pointer (some ⟨b, 0, none⟩)) := by have := hfk 2 (K3.mem_needs (by kernel_rfl)) _ rfl; rw [hRs] at this; exact this
            rw [hRs]
            refine K3.hop_plain rfl ?_
            have hbx := (hE.block b (Nat.lt_of_lt_of_le hlt hd4.size)).trans (show w11.drew.heap[b]? = _ from hbox)
            exact out_load3 rfl k48 (by simp [stA, go_sem, block_cell hbx]) ⟨⟨rfl, hd4.trans (hE.mono hd4.size)⟩, Below.refl _ _⟩
          refine K3.rel_cons (Φ := K3.Hop _ _ _ _ _ _ _) (k := 4) ?_ ?_
          · intro fa fw hfB hfN hfE hfk hft
            have k0 : fa.eval (.tmp 0) = .pointer (some ⟨b, 0, none⟩) := hft 0 (K3.mem_looks (by kernel_rfl)) (K3.noneed (by kernel_rfl))
            rw [hRs]
            refine K3.hop_plain rfl ?_
            refine K3.out_move rfl ?_
            exact ⟨k0, Below.refl _ _⟩
          refine K3.rel_cons (Φ := K3.Hop _ _ _ _ _ _ _) (k := 5) ?_ ?_
          · intro fa fw hfB hfN hfE hfk hft
            have k50 : fa.eval (.tmp 50) = (.pointer (some ⟨b, 0, none⟩)) := by have := hfk 4 (K3.mem_needs (by kernel_rfl)) _ rfl; rw [hRs] at this; exact this
            rw [hRs]
            refine K3.hop_plain rfl ?_
            have kc : ∀ v, fa.eval (.const v) = v := fun _ => rfl
            generalize fa.eval = ρ at *
            exact K3.out_run (v := .pointer (some ⟨b, 0, none⟩)) (w' := fw) (by simp [execOp, kc, k50, hnz, go_sem]) ⟨rfl, Below.refl _ _⟩
          refine K3.rel_cons (Φ := K3.Hop _ _ _ _ _ _ _) (k := 6) ?_ ?_
          · intro fa fw hfB hfN hfE hfk hft
            have k51 : fa.eval (.tmp 51) = (.pointer (some ⟨b, 0, none⟩)) := by have := hfk 5 (K3.mem_needs (by kernel_rfl)) _ rfl; rw [hRs] at this; exact this
            rw [hRs]
            refine K3.hop_plain rfl ?_
            have kc : ∀ v, fa.eval (.const v) = v := fun _ => rfl
            generalize fa.eval = ρ at *
            exact K3.out_run (v := .pointer (some ⟨b, 1, none⟩)) (w' := fw) (by simp [execOp, kc, k51, hnz, go_sem]) ⟨rfl, Below.refl _ _⟩
          refine K3.rel_cons (Φ := K3.Hop _ _ _ _ _ _ _) (k := 7) ?_ ?_
          · intro fa fw hfB hfN hfE hfk hft
            have hE : Below w11.drew.heap.size w11.drew fw := hfE (by kernel_rfl)
            have k52 : fa.eval (.tmp 52) = (.pointer (some ⟨b, 1, none⟩)) := by have := hfk 6 (K3.mem_needs (by kernel_rfl)) _ rfl; rw [hRs] at this; exact this
            rw [hRs]
            refine K3.hop_plain rfl ?_
            have hbx := (hE.block b (Nat.lt_of_lt_of_le hlt hd4.size)).trans (show w11.drew.heap[b]? = _ from hbox)
            exact out_load3 rfl k52 (by simp [stA, go_sem, block_cell hbx]) ⟨rfl, Below.refl _ _⟩
          refine K3.rel_cons (Φ := K3.Hop _ _ _ _ _ _ _) (k := 8) ?_ ?_
          · intro fa fw hfB hfN hfE hfk hft
            have k53 : fa.eval (.tmp 53) = (.string nm) := by have := hfk 7 (K3.mem_needs (by kernel_rfl)) _ rfl; rw [hRs] at this; exact this
            rw [hRs]
            refine K3.hop_plain rfl ?_
            have kc : ∀ v, fa.eval (.const v) = v := fun _ => rfl
            generalize fa.eval = ρ at *
            exact K3.out_run (v := .string (nm ++ wNew)) (w' := fw) (by simp [execOp, kc, k53, hnz, go_sem]) ⟨rfl, Below.refl _ _⟩
          refine K3.rel_cons (Φ := K3.Hop _ _ _ _ _ _ _) (k := 9) ?_ ?_
          · intro fa fw hfB hfN hfE hfk hft
            have k49 : (AtW w11 (.pointer (some ⟨d, 0, none⟩))) (fa.eval (.tmp 49)) fw := by have := hfk 3 (K3.mem_needs (by kernel_rfl)) _ rfl; rw [hRs] at this; exact this
            have k54 : fa.eval (.tmp 54) = (.string (nm ++ wNew)) := by have := hfk 8 (K3.mem_needs (by kernel_rfl)) _ rfl; rw [hRs] at this; exact this
            rw [hRs]
            refine K3.hop_plain rfl ?_
            have kf : fa.eval (.func 45) = .func (.func 45) #[] #[] := rfl
            have kc : ∀ v, fa.eval (.const v) = v := fun _ => rfl
            obtain ⟨kq, pb⟩ := k49
            refine K3.out_call (f := 45) (args := #[.pointer (some ⟨d, 0, none⟩), .string (nm ++ wNew)]) (by generalize fa.eval = ρ at *; simp [execOp, k54, kq, kf, kc, go_sem]) ?_
            exact (HSy.out fw pb).mono fun e w'' ⟨h1, h2, h3⟩ => ⟨_, h1, ⟨rfl, h2.1, h2.2⟩, h3⟩
          refine K3.rel_cons (Φ := K3.Hop _ _ _ _ _ _ _) (k := 10) ?_ ?_
          · intro fa fw hfB hfN hfE hfk hft
            have k55 : (AppW TD1 d (e8, h8, A8) w11) (fa.eval (.tmp 55)) fw := by have := hfk 9 (K3.mem_needs (by kernel_rfl)) _ rfl; rw [hRs] at this; exact this
            rw [hRs]
            refine K3.hop_plain rfl ?_
            refine K3.out_assign rfl ?_
            exact ⟨k55, Below.refl _ _⟩
          exact K3.rel_nil
        · intro fa fw hfB hfy hff hfs hfd
          rw [hRs] at hfy
          have k7 : (AppW TD1 d (e8, h8, A8) w11) (fa.tmps.getD 7 undef) fw := hfy 10 _ rfl (K3.unkilled (by decide))
          have e := K3.rel_frame [46, 47, 48, 49, 50, 51, 52, 53, 54, 55, 7] (by kernel_rfl) hff hfs hfd
          simp only [List.foldl] at e
          clear hfy hff hfs hfd 
          generalize fa.tmps.getD 46 undef = x46 at e
          generalize fa.tmps.getD 47 undef = x47 at e
          generalize fa.tmps.getD 48 undef = x48 at e
          generalize fa.tmps.getD 49 undef = x49 at e
          generalize fa.tmps.getD 50 undef = x50 at e
          generalize fa.tmps.getD 51 undef = x51 at e
          generalize fa.tmps.getD 52 undef = x52 at e
          generalize fa.tmps.getD 53 undef = x53 at e
          generalize fa.tmps.getD 54 undef = x54 at e
          generalize fa.tmps.getD 55 undef = x55 at e
          generalize fa.tmps.getD 7 undef = x7 at e k7
          simp [List.setIfInBounds_toArray, List.set_cons_succ, List.set_cons_zero] at e
          subst e
          obtain ⟨ke, kd, kk⟩ := k7
          rw [ke]
          have HTo := Lib.hid (HN1.out _ _ _ _ (HKv1.out.dev kd kk))
          clear ke kd kk hfB HSy
          by_cases h0 : e8 = 0
          case neg =>
            have hne : (e8 != 0) = true := bne_iff_ne.2 h0
            have HE := Lib.hid (show LogEnd TD TS b d nm m (compC (e8, h8, A8) nm) L L w (.returned (.int .i64 e8)) fw from by
              unfold compC
              rw [if_pos h0]
              exact LogEnd.pre (LogEnd.err (r := (e8, h8, A8)) HTo.out) HB0.out)
            clear h0
            go_wp2_with fail
            go_ret
            rw [HQ.out]
            exact HE.out
          subst h0
          have HQ2 := Lib.hid (show compC (0, h8, A8) nm = renR h8 A8 (nm ++ wNew) nm from by unfold compC; rw [if_neg (by simp)])
          clear hbox hlt hd4
          obtain ⟨TD2, TS2, kv2, hn2⟩ := HTo.out.split
          have HKv2 := Lib.hid kv2
          have HN2 := Lib.hid hn2
          have HRn := Lib.hid (cr_at kv2.ld (fun fw hB => cRename (kv2.dv.below hB) (fun k hk => Nat.lt_of_lt_of_le (kv2.ld k hk) hB.size) (Hok2.out.hd (by omega)) Hok2.out.t (by have := Hok2.out.l; omega) (nm ++ wNew) nm))
          obtain ⟨lv2, hbox, _⟩ := kv2.st.f
          have hlt := lt_of_block hbox
          clear kv2 hn2
          obtain ⟨r7, hr7⟩ : ∃ r7, r7 = renR h8 A8 (nm ++ wNew) nm := ⟨_, rfl⟩
          rw [← hr7] at HQ2
          rw [show stepA h8 A8 (renA A8 (nm ++ wNew) nm) (if findA h8 A8 (nm ++ wNew) ≠ 0 then findA h8 A8 (nm ++ wNew) else if goodN nm = true then 0 else 1) 1 = r7 from hr7.symm] at HRn
          clear hr7
          obtain ⟨e7, h7, A7⟩ := r7
          go_upto_region 15 with fail
          obtain ⟨w12, rfl⟩ : ∃ x, x = fw := ⟨_, rfl⟩
          have hd4 : Below w12.heap.size w12 w12.drew := (Below.refl _ _).drew
          have hRL : ∃ Rs : List (Value → World → Prop), Rs = [K3.PureV (.pointer (some ⟨b, 0, none⟩)),
              K3.PureV (.pointer (some ⟨b, 0, none⟩)),
              K3.PureV (.pointer (some ⟨b, 0, none⟩)),
              AtW w12 (.pointer (some ⟨d, 0, none⟩)),
              K3.PureV (.pointer (some ⟨b, 0, none⟩)),
              K3.PureV (.pointer (some ⟨b, 0, none⟩)),
              K3.PureV (.pointer (some ⟨b, 1, none⟩)),
              K3.PureV (.string nm),
              K3.PureV (.string (nm ++ wNew)),
              K3.PureV (.pointer (some ⟨b, 0, none⟩)),
              K3.PureV (.pointer (some ⟨b, 0, none⟩)),
              K3.PureV (.pointer (some ⟨b, 1, none⟩)),
              K3.PureV (.string nm),
              AppW TD2 d (e7, h7, A7) w12,
              AppW TD2 d (e7, h7, A7) w12] := ⟨_, rfl⟩
          obtain ⟨Rs, hRs⟩ := hRL
          refine K3.wp_region_rel2 0 (Nat.zero_le _) (K3.RL Rs) [2, 2, 2, 1, 2, 2, 2, 2, 2, 2, 2, 2, 2, 1, 1] [1, 1, 1, 1, 1, 1, 1, 1, 1, 1, 1, 1, 1, 2, 1] [[], [], [], [], [], [], [], [], [], [], [], [], [], [3], []] (by kernel_rfl) (by kernel_rfl) (K3.RL.st1 (by rw [hRs]; exact K3.st1_cons (K3.PureV.st1 _) (K3.st1_cons (K3.PureV.st1 _) (K3.st1_cons (K3.PureV.st1 _) (K3.st1_cons (AtW.st1 _ _) (K3.st1_cons (K3.PureV.st1 _) (K3.st1_cons (K3.PureV.st1 _) (K3.st1_cons (K3.PureV.st1 _) (K3.st1_cons (K3.PureV.st1 _) (K3.st1_cons (K3.PureV.st1 _) (K3.st1_cons (K3.PureV.st1 _) (K3.st1_cons (K3.PureV.st1 _) (K3.st1_cons (K3.PureV.st1 _) (K3.st1_cons (K3.PureV.st1 _) (K3.st1_cons (AppW.st1 _ _ _ _) (K3.st1_cons (AppW.st1 _ _ _ _) (K3.st1_nil))))))))))))))))) (K3.RL.st2 (by rw [hRs]; exact K3.st2_cons (K3.PureV.st2 _ _ _) (K3.st2_cons (K3.PureV.st2 _ _ _) (K3.st2_cons (K3.PureV.st2 _ _ _) (K3.st2_skip (K3.st2_cons (K3.PureV.st2 _ _ _) (K3.st2_cons (K3.PureV.st2 _ _ _) (K3.st2_cons (K3.PureV.st2 _ _ _) (K3.st2_cons (K3.PureV.st2 _ _ _) (K3.st2_cons (K3.PureV.st2 _ _ _) (K3.st2_cons (K3.PureV.st2 _ _ _) (K3.st2_cons (K3.PureV.st2 _ _ _) (K3.st2_cons (K3.PureV.st2 _ _ _) (K3.st2_cons (K3.PureV.st2 _ _ _) (K3.st2_skip (K3.st2_skip (K3.st2_nil))))))))))))))))) ?_ ?_ ?_
          · intro i o d hi hd
            have hmem := List.mem_of_getElem? hi
            simp only [List.mem_cons, List.not_mem_nil, or_false] at hmem
            rcases hmem with rfl | rfl | rfl | rfl | rfl | rfl | rfl | rfl | rfl | rfl | rfl | rfl | rfl | rfl | rfl <;> simp at hd <;> (subst hd; simp)
          · refine K3.rel_start (Φ := K3.Hop _ _ _ _ _ _ _) ?_
            refine K3.rel_cons (Φ := K3.Hop _ _ _ _ _ _ _) (k := 0) ?_ ?_
            · intro fa fw hfB hfN hfE hfk hft
              have k0 : fa.eval (.tmp 0) = .pointer (some ⟨b, 0, none⟩) := hft 0 (K3.mem_looks (by kernel_rfl)) (K3.noneed (by kernel_rfl))
              rw [hRs]
              refine K3.hop_plain rfl ?_
              refine K3.out_move rfl ?_
              exact ⟨k0, Below.refl _ _⟩
            refine K3.rel_cons (Φ := K3.Hop _ _ _ _ _ _ _) (k := 1) ?_ ?_
            · intro fa fw hfB hfN hfE hfk hft
              have k59 : fa.eval (.tmp 59) = (.pointer (some ⟨b, 0, none⟩)) := by have := hfk 0 (K3.mem_needs (by kernel_rfl)) _ rfl; rw [hRs] at this; exact this
              rw [hRs]
              refine K3.hop_plain rfl ?_
              have kc : ∀ v, fa.eval (.const v) = v := fun _ => rfl
              generalize fa.eval = ρ at *
              exact K3.out_run (v := .pointer (some ⟨b, 0, none⟩)) (w' := fw) (by simp [execOp, kc, k59, hnz, go_sem]) ⟨rfl, Below.refl _ _⟩
            refine K3.rel_cons (Φ := K3.Hop _ _ _ _ _ _ _) (k := 2) ?_ ?_
            · intro fa fw hfB hfN hfE hfk hft
              have k60 : fa.eval (.tmp 60) = (.pointer (some ⟨b, 0, none⟩)) := by have := hfk 1 (K3.mem_needs (by kernel_rfl)) _ rfl; rw [hRs] at this; exact this
              rw [hRs]
              refine K3.hop_plain rfl ?_
              have kc : ∀ v, fa.eval (.const v) = v := fun _ => rfl
              generalize fa.eval = ρ at *
              exact K3.out_run (v := .pointer (some ⟨b, 0, none⟩)) (w' := fw) (by simp [execOp, kc, k60, hnz, go_sem]) ⟨rfl, Below.refl _ _⟩
            refine K3.rel_cons (Φ := K3.Hop _ _ _ _ _ _ _) (k := 3) ?_ ?_
            · intro fa fw hfB hfN hfE hfk hft
              have hE : Below w12.drew.heap.size w12.drew fw := hfE (by kernel_rfl)
              have k61 : fa.eval (.tmp 61) = (.pointer (some ⟨b, 0, none⟩)) := by have := hfk 2 (K3.mem_needs (by kernel_rfl)) _ rfl; rw [hRs] at this; exact this
              rw [hRs]
              refine K3.hop_plain rfl ?_
              have hbx := (hE.block b (Nat.lt_of_lt_of_le hlt hd4.size)).trans (show w12.drew.heap[b]? = _ from hbox)
              exact out_load3 rfl k61 (by simp [stA, go_sem, block_cell hbx]) ⟨⟨rfl, hd4.trans (hE.mono hd4.size)⟩, Below.refl _ _⟩
            refine K3.rel_cons (Φ := K3.Hop _ _ _ _ _ _ _) (k := 4) ?_ ?_
            · intro fa fw hfB hfN hfE hfk hft
              have k0 : fa.eval (.tmp 0) = .pointer (some ⟨b, 0, none⟩) := hft 0 (K3.mem_looks (by kernel_rfl)) (K3.noneed (by kernel_rfl))
              rw [hRs]
              refine K3.hop_plain rfl ?_
              refine K3.out_move rfl ?_
              exact ⟨k0, Below.refl _ _⟩
            refine K3.rel_cons (Φ := K3.Hop _ _ _ _ _ _ _) (k := 5) ?_ ?_
            · intro fa fw hfB hfN hfE hfk hft
              have k63 : fa.eval (.tmp 63) = (.pointer (some ⟨b, 0, none⟩)) := by have := hfk 4 (K3.mem_needs (by kernel_rfl)) _ rfl; rw [hRs] at this; exact this
              rw [hRs]
              refine K3.hop_plain rfl ?_
              have kc : ∀ v, fa.eval (.const v) = v := fun _ => rfl
              generalize fa.eval = ρ at *
              exact K3.out_run (v := .pointer (some ⟨b, 0, none⟩)) (w' := fw) (by simp [execOp, kc, k63, hnz, go_sem]) ⟨rfl, Below.refl _ _⟩
            refine K3.rel_cons (Φ := K3.Hop _ _ _ _ _ _ _) (k := 6) ?_ ?_
            · intro fa fw hfB hfN hfE hfk hft
              have k64 : fa.eval (.tmp 64) = (.pointer (some ⟨b, 0, none⟩)) := by have := hfk 5 (K3.mem_needs (by kernel_rfl)) _ rfl; rw [hRs] at this; exact this
              rw [hRs]
              refine K3.hop_plain rfl ?_
              have kc : ∀ v, fa.eval (.const v) = v := fun _ => rfl
              generalize fa.eval = ρ at *
              exact K3.out_run (v := .pointer (some ⟨b, 1, none⟩)) (w' := fw) (by simp [execOp, kc, k64, hnz, go_sem]) ⟨rfl, Below.refl _ _⟩
            refine K3.rel_cons (Φ := K3.Hop _ _ _ _ _ _ _) (k := 7) ?_ ?_
            · intro fa fw hfB hfN hfE hfk hft
              have hE : Below w12.drew.heap.size w12.drew fw := hfE (by kernel_rfl)
              have k65 : fa.eval (.tmp 65) = (.pointer (some ⟨b, 1, none⟩)) := by have := hfk 6 (K3.mem_needs (by kernel_rfl)) _ rfl; rw [hRs] at this; exact this
              rw [hRs]
              refine K3.hop_plain rfl ?_
              have hbx := (hE.block b (Nat.lt_of_lt_of_le hlt hd4.size)).trans (show w12.drew.heap[b]? = _ from hbox)
              exact out_load3 rfl k65 (by simp [stA, go_sem, block_cell hbx]) ⟨rfl, Below.refl _ _⟩
            refine K3.rel_cons (Φ := K3.Hop _ _ _ _ _ _ _) (k := 8) ?_ ?_
            · intro fa fw hfB hfN hfE hfk hft
              have k66 : fa.eval (.tmp 66) = (.string nm) := by have := hfk 7 (K3.mem_needs (by kernel_rfl)) _ rfl; rw [hRs] at this; exact this
              rw [hRs]
              refine K3.hop_plain rfl ?_
              have kc : ∀ v, fa.eval (.const v) = v := fun _ => rfl
              generalize fa.eval = ρ at *
              exact K3.out_run (v := .string (nm ++ wNew)) (w' := fw) (by simp [execOp, kc, k66, hnz, go_sem]) ⟨rfl, Below.refl _ _⟩
            refine K3.rel_cons (Φ := K3.Hop _ _ _ _ _ _ _) (k := 9) ?_ ?_
            · intro fa fw hfB hfN hfE hfk hft
              have k0 : fa.eval (.tmp 0) = .pointer (some ⟨b, 0, none⟩) := hft 0 (K3.mem_looks (by kernel_rfl)) (K3.noneed (by kernel_rfl))
              rw [hRs]
              refine K3.hop_plain rfl ?_
              refine K3.out_move rfl ?_
              exact ⟨k0, Below.refl _ _⟩
            refine K3.rel_cons (Φ := K3.Hop _ _ _ _ _ _ _) (k := 10) ?_ ?_
            · intro fa fw hfB hfN hfE hfk hft
              have k68 : fa.eval (.tmp 68) = (.pointer (some ⟨b, 0, none⟩)) := by have := hfk 9 (K3.mem_needs (by kernel_rfl)) _ rfl; rw [hRs] at this; exact this
              rw [hRs]
              refine K3.hop_plain rfl ?_
              have kc : ∀ v, fa.eval (.const v) = v := fun _ => rfl
              generalize fa.eval = ρ at *
              exact K3.out_run (v := .pointer (some ⟨b, 0, none⟩)) (w' := fw) (by simp [execOp, kc, k68, hnz, go_sem]) ⟨rfl, Below.refl _ _⟩
            refine K3.rel_cons (Φ := K3.Hop _ _ _ _ _ _ _) (k := 11) ?_ ?_
            · intro fa fw hfB hfN hfE hfk hft
              have k69 : fa.eval (.tmp 69) = (.pointer (some ⟨b, 0, none⟩)) := by have := hfk 10 (K3.mem_needs (by kernel_rfl)) _ rfl; rw [hRs] at this; exact this
              rw [hRs]
              refine K3.hop_plain rfl ?_
              have kc : ∀ v, fa.eval (.const v) = v := fun _ => rfl
              generalize fa.eval = ρ at *
              exact K3.out_run (v := .pointer (some ⟨b, 1, none⟩)) (w' := fw) (by simp [execOp, kc, k69, hnz, go_sem]) ⟨rfl, Below.refl _ _⟩
            refine K3.rel_cons (Φ := K3.Hop _ _ _ _ _ _ _) (k := 12) ?_ ?_
            · intro fa fw hfB hfN hfE hfk hft
              have hE : Below w12.drew.heap.size w12.drew fw := hfE (by kernel_rfl)
              have k70 : fa.eval (.tmp 70) = (.pointer (some ⟨b, 1, none⟩)) := by have := hfk 11 (K3.mem_needs (by kernel_rfl)) _ rfl; rw [hRs] at this; exact this
              rw [hRs]
              refine K3.hop_plain rfl ?_
              have hbx := (hE.block b (Nat.lt_of_lt_of_le hlt hd4.size)).trans (show w12.drew.heap[b]? = _ from hbox)
              exact out_load3 rfl k70 (by simp [stA, go_sem, block_cell hbx]) ⟨rfl, Below.refl _ _⟩
            refine K3.rel_cons (Φ := K3.Hop _ _ _ _ _ _ _) (k := 13) ?_ ?_
            · intro fa fw hfB hfN hfE hfk hft
              have k62 : (AtW w12 (.pointer (some ⟨d, 0, none⟩))) (fa.eval (.tmp 62)) fw := by have := hfk 3 (K3.mem_needs (by kernel_rfl)) _ rfl; rw [hRs] at this; exact this
              have k67 : fa.eval (.tmp 67) = (.string (nm ++ wNew)) := by have := hfk 8 (K3.mem_needs (by kernel_rfl)) _ rfl; rw [hRs] at this; exact this
              have k71 : fa.eval (.tmp 71) = (.string nm) := by have := hfk 12 (K3.mem_needs (by kernel_rfl)) _ rfl; rw [hRs] at this; exact this
              rw [hRs]
              refine K3.hop_plain rfl ?_
              have kf : fa.eval (.func 48) = .func (.func 48) #[] #[] := rfl
              have kc : ∀ v, fa.eval (.const v) = v := fun _ => rfl
              obtain ⟨kq, pb⟩ := k62
              refine K3.out_call (f := 48) (args := #[.pointer (some ⟨d, 0, none⟩), .string (nm ++ wNew), .string nm]) (by generalize fa.eval = ρ at *; simp [execOp, k67, k71, kq, kf, kc, go_sem]) ?_
              exact (HRn.out fw pb).mono fun e w'' ⟨h1, h2, h3⟩ => ⟨_, h1, ⟨rfl, h2.1, h2.2⟩, h3⟩
            refine K3.rel_cons (Φ := K3.Hop _ _ _ _ _ _ _) (k := 14) ?_ ?_
            · intro fa fw hfB hfN hfE hfk hft
              have k72 : (AppW TD2 d (e7, h7, A7) w12) (fa.eval (.tmp 72)) fw := by have := hfk 13 (K3.mem_needs (by kernel_rfl)) _ rfl; rw [hRs] at this; exact this
              rw [hRs]
              refine K3.hop_plain rfl ?_
              refine K3.out_assign rfl ?_
              exact ⟨k72, Below.refl _ _⟩
            exact K3.rel_nil
          · intro fa fw hfB hfy hff hfs hfd
            rw [hRs] at hfy
            have k2 : (AppW TD2 d (e7, h7, A7) w12) (fa.tmps.getD 2 undef) fw := hfy 14 _ rfl (K3.unkilled (by decide))
            have e := K3.rel_frame [59, 60, 61, 62, 63, 64, 65, 66, 67, 68, 69, 70, 71, 72, 2] (by kernel_rfl) hff hfs hfd
            simp only [List.foldl] at e
            clear hfy hff hfs hfd 
            generalize fa.tmps.getD 59 undef = x59 at e
            generalize fa.tmps.getD 60 undef = x60 at e
            generalize fa.tmps.getD 61 undef = x61 at e
            generalize fa.tmps.getD 62 undef = x62 at e
            generalize fa.tmps.getD 63 undef = x63 at e
            generalize fa.tmps.getD 64 undef = x64 at e
            generalize fa.tmps.getD 65 undef = x65 at e
            generalize fa.tmps.getD 66 undef = x66 at e
            generalize fa.tmps.getD 67 undef = x67 at e
            generalize fa.tmps.getD 68 undef = x68 at e
            generalize fa.tmps.getD 69 undef = x69 at e
            generalize fa.tmps.getD 70 undef = x70 at e
            generalize fa.tmps.getD 71 undef = x71 at e
            generalize fa.tmps.getD 72 undef = x72 at e
            generalize fa.tmps.getD 2 undef = x2 at e k2
            simp [List.setIfInBounds_toArray, List.set_cons_succ, List.set_cons_zero] at e
            subst e
            obtain ⟨ke, kd, kk⟩ := k2
            rw [ke]
            have HTo := Lib.hid (HN2.out _ _ _ _ (HKv2.out.dev kd kk))
            clear ke kd kk hfB HRn
            have HE := Lib.hid (LogEnd.pre (LogEnd.err (r := (e7, h7, A7)) HTo.out) HB0.out)
            go_wp2_with fail
            go_ret
            rw [HQ.out, HQ2.out]
            exact HE.out
end Go.Proofs.Ytbdlmdmbaajcmaa
