/- The document's Steps. -/
import Derived.Test.YtbdlmdmbaajcmaaZr
namespace Go.Proofs.Ytbdlmdmbaajcmaa
set_option linter.unusedVariables false
set_option linter.unusedSimpArgs false
open Go.ChangeShapes Go.WideShapes Go.ChangeAt Go.RowKit

def stepsRs (L : List En) (m : Int) (k v : ByteArray) : List ByteArray := if getL L k = (v, true) then [] else putRs L m k v
set_option maxRecDepth 100000 in
set_option maxHeartbeats 2000000 in
/-- The records of a Put. -/
theorem steps_any {T : Nat → Prop} {b : Nat} {m : Int} {L : List En} {z : Int} {w : World} (rs : Rs T b m L z w) (hl : L.length ≤ 8192) (hm : 1 ≤ m ∧ m ≤ 4096) (hkey : ∀ e ∈ L, e.1.size ≤ 1048576) (k v : ByteArray) (hks : k.size ≤ 1048576) (hvs : v.size ≤ 1048576) :
    Calls Try.prog 25 #[.pointer (some ⟨b, 0, none⟩), .agg #[.string k, .string v]] w (StrsEnd (stepsRs L m k v) w) := by
  obtain ⟨lv, hbx, hrow⟩ := rs.f
  obtain ⟨p, c, rfl, hp⟩ := gen_shape hrow.lat
  obtain ⟨hbB, hbh⟩ := box2T w k v 56
  have hbl := lt_of_block hbx
  have HB0 := Lib.hid hbB
  have Hlat := Lib.hid (hrow.lat.below hbB)
  have Hb := Lib.hid ((hbB.block b hbl).trans hbx)
  have Hbb := Lib.hid (show b < (w.alloc (.cells #[.string k, .string v] 56)).heap.size from Nat.lt_of_lt_of_le hbl hbB.size)
  obtain ⟨bx, hbxe⟩ : ∃ bx, bx = w.heap.size := ⟨_, rfl⟩
  rw [← hbxe] at hbh
  have Hbox := Lib.hid hbh
  have Hbl := Lib.hid (lt_of_block hbh)
  have HAt := Lib.hid (fun w9 (h9 : Below (w.alloc (.cells #[.string k, .string v] 56)).heap.size (w.alloc (.cells #[.string k, .string v] 56)) w9) => (at_any L _ w9 (hrow.lat.below (hbB.trans (h9.mono hbB.size))) (by omega) k).mono (fun e9 w8 hh => (⟨hh.1, h9.trans (hh.2.mono h9.size)⟩ : e9 = .returned (.int .i64 (idxV (whereL L k))) ∧ Below (w.alloc (.cells #[.string k, .string v] 56)).heap.size (w.alloc (.cells #[.string k, .string v] 56)) w8)))
  have HK := Lib.hid hkey
  clear rs hbx hrow hbB hbh hbl hkey
  cases hw : whereL L k with
  | some i =>
    obtain ⟨hi, hik⟩ := whereL_lt hw
    obtain ⟨x1, x2, hx⟩ : ∃ x1 x2, L[i] = (x1, x2) := ⟨_, _, rfl⟩
    have hxi : L[i]? = some (x1, x2) := by rw [List.getElem?_eq_getElem hi, hx]
    have hget : getL L k = (x2, true) := by unfold getL; rw [hw]; simp [List.getD_eq_getElem?_getD, hxi]
    have hiI : (i : Int) < (L.length : Int) := by omega
    have hi0 : (0 : Int) ≤ (i : Int) := by omega
    have hi1 : ¬ (i : Int) < 0 := by omega
    obtain ⟨g0, off, rfl⟩ := hp (by omega)
    have ke := str_eqb x2 v
    obtain ⟨q, hq⟩ : ∃ q, decide (x2 = v) = q := ⟨_, rfl⟩
    rw [hq] at ke
    have HS := Lib.hid (show stepsRs L m k v = if q = true then [] else [putB (k, v)] from by
      unfold stepsRs putRs
      rw [hget, hw]
      cases q with
      | true => rw [if_pos (by rw [of_decide_eq_true hq]), if_pos rfl]
      | false => rw [if_neg (fun h => of_decide_eq_false hq (congrArg Prod.fst h)), if_neg (by simp)]; rfl)
    rw [HS.out]
    rw [hw] at HAt
    unfold idxV at HAt
    have HX := Lib.hid hxi
    clear hq hx hxi hget hik hw hi HS
    go_enter Try.func25, Try.ntmps25
    go_upto_region 1 with fail
    rw [← hbxe]
    have Hbe := Lib.hid hbxe
    clear hbxe
    generalize w.alloc (.cells #[.string k, .string v] 56) = w1 at *
    have Hl1 := Lib.hid (fun w9 (h9 : Below w1.heap.size w1 w9) => (by have e := (h9.cell (p := ⟨b, 1, none⟩) Hbb.out).trans (block_cell Hb.out 1); simp [rsA] at e; simp [go_sem, e] : (loadVar 32 ⟨b, 1, none⟩).run Try.prog w9 = .ok (.slice (some ⟨g0, off, none⟩) L.length c) w9))
    have Hl2 := Lib.hid (fun w9 (h9 : Below w1.heap.size w1 w9) => (by have e := (h9.cell (p := ⟨bx, 0, none⟩) Hbl.out).trans (block_cell Hbox.out 0); simp at e; simp [go_sem, e] : (loadVar 9 ⟨bx, 0, none⟩).run Try.prog w9 = .ok (.string k) w9))
    refine wp_region_class (Below w1.heap.size w1) (by kernel_rfl) (by kernel_rfl) (Below.refl _ _).drew ?_
    repeat (go_big_quiet_step (first | (intro _; rfl)))
    refine wpQuiet_load_at rfl 32 (.tmp 10) rfl ⟨b, 1, none⟩ rfl (.slice (some ⟨g0, off, none⟩) L.length c) Hl1.out ?_
    simp only [Act.put, List.setIfInBounds_toArray, List.set_cons_succ, List.set_cons_zero]
    repeat (go_big_quiet_step (first | (intro _; rfl)))
    refine wpQuiet_load_at rfl 9 (.tmp 12) rfl ⟨bx, 0, none⟩ rfl (.string k) Hl2.out ?_
    simp only [Act.put, List.setIfInBounds_toArray, List.set_cons_succ, List.set_cons_zero]
    repeat (go_big_quiet_step (first | (intro _; rfl) | (intro hq; exact HAt.out _ hq)))
    refine wpQuiet_nil ?_
    intro wq hBq
    have HBq := Lib.hid hBq
    clear hBq
    obtain ⟨hg, hc0, hc1⟩ := Hlat.out.cellsN HX.out
    have e1 := (HBq.out.cell (p := ⟨g0, off + i * 2 + 1, none⟩) hg).trans hc1
    have e2 := (HBq.out.cell (p := ⟨b, 1, none⟩) Hbb.out).trans (block_cell Hb.out 1)
    rw [show (rsA m (.slice (some ⟨g0, off, none⟩) L.length c) z)[1]? = some (.slice (some ⟨g0, off, none⟩) L.length c) from rfl] at e2
    have e3 := (HBq.out.cell (p := ⟨bx, 1, none⟩) Hbl.out).trans (block_cell Hbox.out 1)
    rw [show (#[Value.string k, Value.string v])[1]? = some (.string v) from rfl] at e3
    clear hg hc0 hc1 HAt Hl1 Hl2
    cases q with
    | true =>
      go_wp2_with fail
      go_quiet (fail)
      have HE := Lib.hid (show StrsEnd [] w (.returned (.slice none 0 0)) (wq.drewN nq) from ⟨_, rfl, row_nil _ _, HB0.out.trans ((below_drewN HBq.out nq).mono HB0.out.size)⟩)
      go_wp2_with fail
      go_ret
      exact HE.out
    | false =>
      go_wp2_with fail
      go_quiet (fail)
      have HB2 := Lib.hid (below_drewN HBq.out nq)
      have HO := Lib.hid (show (wq.drewN nq).ownsRow w1.heap.size 9 1 (.slice none 0 0) ([] : List ByteArray).length (LF (fun s : ByteArray => [Value.string s]) []) from ⟨rfl, .inl ⟨rfl, rfl⟩⟩)
      clear e1 e2 e3 HBq
      generalize wq.drewN nq = w2 at *
      have e0 := block_cell ((HB2.out.block bx Hbl.out).trans Hbox.out) 0
      have e1 := block_cell ((HB2.out.block bx Hbl.out).trans Hbox.out) 1
      have HRc := Lib.hid (record_any k v w2 (by omega) (by omega))
      obtain ⟨rr, hrr⟩ : ∃ rr, rr = putB (k, v) := ⟨_, rfl⟩
      rw [← hrr] at HRc
      have Hrr := Lib.hid hrr
      clear hrr
      go_wp2_with fail
      refine HRc.out.mono ?_
      rintro e w3 ⟨rfl, hB3⟩
      have HB3 := Lib.hid (HB2.out.trans (hB3.mono HB2.out.size))
      have HO3 := Lib.hid (gen_own_below HO.out hB3)
      have hsz3 := HB3.out.size
      clear hB3 HRc e0 e1
      go_wp2_with (at_builtin; go_must (refine wpList_append_gen eltS rfl (.tmp 58) (.tmp 61) rfl rfl w1.heap.size _ ([] : List ByteArray) rfl (gen_own_below HO3.out ((Below.refl w3.heap.size w3).alloc (Nat.le_refl _) (.cells #[.string rr] 9))) _ [rr] (LAt.block rfl rfl (heap_alloc_new w3 (.cells #[.string rr] 9))) rfl (by simp only [List.length_cons, List.length_nil]; omega) (by unfold maxLen; simp only [List.length_cons, List.length_nil]; omega) (by simp; omega) ?_); intro v4 w4 hown4 hgrow4)
      have HB4 := Lib.hid ((HB3.out.trans (((Below.refl w3.heap.size w3).alloc (Nat.le_refl _) (.cells #[.string rr] 9)).mono HB3.out.size)).grown hgrow4 (by simp; omega) (fun k hk => (HO3.out.lt k hk).1))
      have HE := Lib.hid (show StrsEnd (([] : List ByteArray) ++ [rr]) w (.returned v4) w4 from StrsEnd.of (by rw [← LF_strs]; exact own_base hown4 HB0.out.size) rfl (HB0.out.trans (HB4.out.mono HB0.out.size)))
      go_wp2_with fail
      go_ret
      rw [← Hrr.out]
      exact HE.out
  | none =>
    have hget : ¬ getL L k = (v, true) := by unfold getL; rw [hw]; simp
    obtain ⟨q, hq⟩ : ∃ q, q = ((L.length : Int) + 1 - m).toNat := ⟨_, rfl⟩
    have HS := Lib.hid (show stepsRs L m k v = (L.take q).map (fun e => goneB e.1) ++ [putB (k, v)] from by
      unfold stepsRs putRs
      rw [if_neg hget, hw, hq])
    rw [HS.out]
    rw [hw] at HAt
    unfold idxV at HAt
    have hql : (q : Int) = max ((L.length : Int) + 1 - m) 0 := by omega
    clear hget hw HS hq
    go_enter Try.func25, Try.ntmps25
    go_upto_region 1 with fail
    rw [← hbxe]
    have Hbe := Lib.hid hbxe
    clear hbxe
    generalize w.alloc (.cells #[.string k, .string v] 56) = w1 at *
    have Hl1 := Lib.hid (fun w9 (h9 : Below w1.heap.size w1 w9) => (by have e := (h9.cell (p := ⟨b, 1, none⟩) Hbb.out).trans (block_cell Hb.out 1); simp [rsA] at e; simp [go_sem, e] : (loadVar 32 ⟨b, 1, none⟩).run Try.prog w9 = .ok (.slice p L.length c) w9))
    have Hl2 := Lib.hid (fun w9 (h9 : Below w1.heap.size w1 w9) => (by have e := (h9.cell (p := ⟨bx, 0, none⟩) Hbl.out).trans (block_cell Hbox.out 0); simp at e; simp [go_sem, e] : (loadVar 9 ⟨bx, 0, none⟩).run Try.prog w9 = .ok (.string k) w9))
    refine wp_region_class (Below w1.heap.size w1) (by kernel_rfl) (by kernel_rfl) (Below.refl _ _).drew ?_
    repeat (go_big_quiet_step (first | (intro _; rfl)))
    refine wpQuiet_load_at rfl 32 (.tmp 10) rfl ⟨b, 1, none⟩ rfl (.slice p L.length c) Hl1.out ?_
    simp only [Act.put, List.setIfInBounds_toArray, List.set_cons_succ, List.set_cons_zero]
    repeat (go_big_quiet_step (first | (intro _; rfl)))
    refine wpQuiet_load_at rfl 9 (.tmp 12) rfl ⟨bx, 0, none⟩ rfl (.string k) Hl2.out ?_
    simp only [Act.put, List.setIfInBounds_toArray, List.set_cons_succ, List.set_cons_zero]
    repeat (go_big_quiet_step (first | (intro _; rfl) | (intro hq; exact HAt.out _ hq)))
    refine wpQuiet_nil ?_
    intro wq hBq
    have HBq := Lib.hid hBq
    clear hBq
    clear HAt Hl1 Hl2
    go_wp2_with fail
    go_quiet (fail)
    have HB2 := Lib.hid (below_drewN HBq.out nq)
    clear HBq
    generalize wq.drewN nq = w2 at *
    go_wp2_with fail
    go_loopg [6, 7] q (fun g v iv wr => ∃ j : Nat, j + g = q ∧ iv = .int .i64 j ∧ Hid (wr.ownsRow w1.heap.size 9 1 v ((L.take j).map (fun e => goneB e.1)).length (LF (fun s : ByteArray => [Value.string s]) ((L.take j).map (fun e => goneB e.1)))) ∧ Hid (Below w1.heap.size w1 wr))
    case atStart => exact ⟨0, by omega, rfl, Lib.hid ⟨by simp [LF], .inl ⟨rfl, rfl⟩⟩, HB2⟩
    case round =>
      obtain ⟨j, hjg, rfl, HO, HB⟩ := hrel
      have e2 := (HB.out.cell (p := ⟨b, 1, none⟩) Hbb.out).trans (block_cell Hb.out 1)
      rw [show (rsA m (.slice p L.length c) z)[1]? = some (.slice p L.length c) from rfl] at e2
      have e3 := (HB.out.cell (p := ⟨b, 0, none⟩) Hbb.out).trans (block_cell Hb.out 0)
      rw [show (rsA m (.slice p L.length c) z)[0]? = some (.int .i64 m) from rfl] at e3
      by_cases hj : j < q
      · have hjI : m ≤ (L.length : Int) - (j : Int) := by omega
        have hjl : j < L.length := by omega
        have hjlI : (j : Int) < (L.length : Int) := by omega
        go_wp2_with fail
        go_quiet (fail)
        have HB5 := Lib.hid (below_drewN HB.out nq)
        have HO5 := Lib.hid (gen_own_below HO.out (below_drewN (Below.refl _ _) nq))
        clear e2 e3 HB HO
        generalize wr.drewN nq = w5 at *
        obtain ⟨g0, off, rfl⟩ := hp (by omega)
        obtain ⟨x1, x2, hx⟩ : ∃ x1 x2, L[j] = (x1, x2) := ⟨_, _, rfl⟩
        have hxi : L[j]? = some (x1, x2) := by rw [List.getElem?_eq_getElem hjl, hx]
        obtain ⟨hg, hc0, hc1⟩ := Hlat.out.cellsN hxi
        have e0 := (HB5.out.cell (p := ⟨g0, off + j * 2, none⟩) hg).trans hc0
        have e2 := (HB5.out.cell (p := ⟨b, 1, none⟩) Hbb.out).trans (block_cell Hb.out 1)
        rw [show (rsA m (.slice (some ⟨g0, off, none⟩) L.length c) z)[1]? = some (.slice (some ⟨g0, off, none⟩) L.length c) from rfl] at e2
        have hxs := HK.out (x1, x2) (List.mem_of_getElem? hxi)
        dsimp only at hxs
        have HGn := Lib.hid (gone_any x1 w5 (by omega))
        have HG := Lib.hid (show (L.take (j + 1)).map (fun e => goneB e.1) = (L.take j).map (fun e => goneB e.1) ++ [goneB x1] from by rw [List.take_add_one, hxi, List.map_append]; rfl)
        have hG0l : ((L.take j).map (fun e : En => goneB e.1)).length = j := by rw [List.length_map, List.length_take]; omega
        generalize goneB x1 = rr at *
        generalize (L.take j).map (fun e : En => goneB e.1) = G0 at *
        have hjb : G0.length + 1 ≤ 8388609 := by omega
        clear hx hxi hg hc0 hc1 hG0l hxs
        go_wp2_with fail
        refine HGn.out.mono ?_
        rintro e w3 ⟨rfl, hB3⟩
        have HB3 := Lib.hid (HB5.out.trans (hB3.mono HB5.out.size))
        have HO3 := Lib.hid (gen_own_below HO5.out hB3)
        have hsz3 := HB3.out.size
        clear hB3 HGn e0 e2
        go_wp2_with (at_builtin; go_must (refine wpList_append_gen eltS rfl (.tmp 46) (.tmp 56) rfl rfl w1.heap.size _ G0 rfl (gen_own_below HO3.out ((Below.refl w3.heap.size w3).alloc (Nat.le_refl _) (.cells #[.string rr] 9))) _ [rr] (LAt.block rfl rfl (heap_alloc_new w3 (.cells #[.string rr] 9))) rfl (by simp only [List.length_cons, List.length_nil]; omega) (by unfold maxLen; simp only [List.length_cons, List.length_nil]; omega) (by simp; omega) ?_); intro v4 w4 hown4 hgrow4)
        have HB4 := Lib.hid ((HB3.out.trans (((Below.refl w3.heap.size w3).alloc (Nat.le_refl _) (.cells #[.string rr] 9)).mono HB3.out.size)).grown hgrow4 (by simp; omega) (fun k hk => (HO3.out.lt k hk).1))
        go_roundg (gk - 1)
        case measure => omega
        case rel =>
          refine ⟨j + 1, by omega, by go_num, Lib.hid ?_, HB4⟩
          rw [HG.out]
          exact hown4
      · obtain rfl : j = q := by omega
        have hjI : ¬ m ≤ (L.length : Int) - (j : Int) := by omega
        go_wp2_with fail
        go_quiet (fail)
        have HB5 := Lib.hid (below_drewN HB.out nq)
        have HO5 := Lib.hid (gen_own_below HO.out (below_drewN (Below.refl _ _) nq))
        have hG0l : ((L.take j).map (fun e : En => goneB e.1)).length ≤ L.length := by rw [List.length_map, List.length_take]; omega
        clear e2 e3 HB HO
        generalize wr.drewN nq = w5 at *
        obtain ⟨G0, hG0⟩ : ∃ G0, G0 = (L.take j).map (fun e : En => goneB e.1) := ⟨_, rfl⟩
        rw [← hG0] at hG0l HO5
        have HG0 := Lib.hid hG0
        clear hG0
        have e0 := block_cell ((HB5.out.block bx Hbl.out).trans Hbox.out) 0
        have e1 := block_cell ((HB5.out.block bx Hbl.out).trans Hbox.out) 1
        have HRc := Lib.hid (record_any k v w5 (by omega) (by omega))
        obtain ⟨rr, hrr⟩ : ∃ rr, rr = putB (k, v) := ⟨_, rfl⟩
        rw [← hrr] at HRc
        have Hrr := Lib.hid hrr
        clear hrr
        go_wp2_with fail
        refine HRc.out.mono ?_
        rintro e w3 ⟨rfl, hB3⟩
        have HB3 := Lib.hid (HB5.out.trans (hB3.mono HB5.out.size))
        have HO3 := Lib.hid (gen_own_below HO5.out hB3)
        have hsz3 := HB3.out.size
        clear hB3 HRc e0 e1
        go_wp2_with (at_builtin; go_must (refine wpList_append_gen eltS rfl (.tmp 58) (.tmp 61) rfl rfl w1.heap.size _ G0 rfl (gen_own_below HO3.out ((Below.refl w3.heap.size w3).alloc (Nat.le_refl _) (.cells #[.string rr] 9))) _ [rr] (LAt.block rfl rfl (heap_alloc_new w3 (.cells #[.string rr] 9))) rfl (by simp only [List.length_cons, List.length_nil]; omega) (by unfold maxLen; simp only [List.length_cons, List.length_nil]; omega) (by simp; omega) ?_); intro v4 w4 hown4 hgrow4)
        have HB4 := Lib.hid ((HB3.out.trans (((Below.refl w3.heap.size w3).alloc (Nat.le_refl _) (.cells #[.string rr] 9)).mono HB3.out.size)).grown hgrow4 (by simp; omega) (fun k hk => (HO3.out.lt k hk).1))
        have HE := Lib.hid (show StrsEnd (G0 ++ [rr]) w (.returned v4) w4 from StrsEnd.of (by rw [← LF_strs]; exact own_base hown4 HB0.out.size) rfl (HB0.out.trans (HB4.out.mono HB0.out.size)))
        go_wp2_with fail
        go_ret
        rw [← Hrr.out, ← HG0.out]
        exact HE.out
end Go.Proofs.Ytbdlmdmbaajcmaa
