/- The document's Put, Evict, Compact. -/
import Derived.Test.YtbdlmdmbaajcmaaZs
import Derived.Test.YtbdlmdmbaajcmaaZo
namespace Go.Proofs.Ytbdlmdmbaajcmaa
set_option linter.unusedVariables false
set_option linter.unusedSimpArgs false
open Go.ChangeShapes Go.WideShapes Go.ChangeAt Go.RowKit

def refPutOut (L : List En) (m z : Int) (k v : ByteArray) (free : Int) : Int × List En × Int :=
  if 65536 < (putB (k, v)).size then (3, L, z) else if getL L k = (v, true) then (0, L, z) else writeOut L z (putRs L m k v) free
theorem putRs_ne (L : List En) (m : Int) (k v : ByteArray) : 0 < (putRs L m k v).length := by unfold putRs; rw [List.length_append]; simp
theorem putRs_mem {L : List En} {m : Int} {k v : ByteArray} {N : Nat} (hkey : ∀ e ∈ L, e.1.size ≤ N) : ∀ r ∈ putRs L m k v, r.size ≤ 28 + N ∨ r = putB (k, v) := fun r hr => by
  unfold putRs at hr
  rcases List.mem_append.1 hr with h | h
  · cases hw : whereL L k with
    | some i => rw [hw] at h; cases h
    | none =>
      rw [hw] at h
      obtain ⟨x, hx, rfl⟩ := List.mem_map.1 h
      rw [goneB_size]
      have := hkey x (List.mem_of_mem_take hx)
      exact .inl (by omega)
  · exact .inr (List.mem_singleton.1 h)
theorem putRs_len (L : List En) (m : Int) (k v : ByteArray) : (putRs L m k v).length ≤ L.length + 1 := by
  unfold putRs
  rw [List.length_append, List.length_singleton]
  cases whereL L k with
  | some i => simp
  | none => dsimp only; rw [List.length_map, List.length_take]; omega
set_option maxRecDepth 100000 in
set_option maxHeartbeats 2000000 in
/-- A key gets a value. -/
theorem refPut_any {T : Nat → Prop} {b : Nat} {m : Int} {L : List En} {z : Int} {w : World} (rs : Rs T b m L z w) (hT : ∀ k, T k → k < w.heap.size) (nd : (L.map (·.1)).Nodup) (hzz : 0 ≤ z ∧ z ≤ 1099511627776) (hl : L.length ≤ 8192) (hm : 1 ≤ m ∧ m ≤ 4096) (hkey : ∀ e ∈ L, e.1.size ≤ 65536) (k v : ByteArray) (hks : k.size ≤ 1048576) (hvs : v.size ≤ 1048576) (hz : ¬ 65536 < (putB (k, v)).size → bytesN (putRs L m k v) ≤ 1073741824) (free : Int) :
    Calls Try.prog 34 #[.pointer (some ⟨b, 0, none⟩), .string k, .string v, .int .i64 free] w (RsEnd T b m (refPutOut L m z k v free) w) := by
  obtain ⟨hbB, hbh⟩ := box2T w k v 56
  have HBa := Lib.hid hbB
  have Hbx := Lib.hid hbh
  have HRs := Lib.hid rs
  have HT := Lib.hid hT
  have Hnd := Lib.hid nd
  have Hkey := Lib.hid hkey
  have HTb := Lib.hid rs.t
  have HRc := Lib.hid (fun w1 => record_any k v w1 (by omega) (by omega))
  have HSt := Lib.hid (fun w1 (hB : Below w.heap.size w w1) => steps_any (rs.below hB) hl hm (fun e he => by have := hkey e he; omega) k v hks hvs)
  have HSz := Lib.hid hz
  have HMem := Lib.hid (putRs_mem (m := m) (k := k) (v := v) hkey)
  have hpl := putRs_len L m k v
  have hpn := putRs_ne L m k v
  have c0 := block_cell hbh 0
  have c1 := block_cell hbh 1
  obtain ⟨rc, hrc⟩ : ∃ rc, rc = putB (k, v) := ⟨_, rfl⟩
  rw [← hrc] at HRc HSz HMem
  have HWr := Lib.hid (fun (w2 : World) (u : Value) (hz : ¬ 65536 < rc.size) (hB : Below w.heap.size w w2) (hu : w2.ownsRow w.heap.size 9 1 u (putRs L m k v).length ((putRs L m k v).map Value.string)) => write_any (rs.below hB) nd hzz (putRs L m k v) u w.heap.size hu hT (HSz.out hz) (fun r hr => by
    rcases HMem.out r hr with h | h
    · omega
    · rw [h]; omega) (by omega) free)
  clear rs hT nd hkey hz hbB hbh
  by_cases hbig : 65536 < (putB (k, v)).size
  · have ho : refPutOut L m z k v free = (3, L, z) := by unfold refPutOut; rw [if_pos hbig]
    rw [ho]
    rw [← hrc] at hbig
    have hbI : (65536 : Int) < (rc.size : Int) := by omega
    clear ho hrc
    go_enter Try.func34, Try.ntmps34
    go_upto_region 2 with fail
    generalize w.alloc (.cells #[.string k, .string v] 56) = w1 at *
    go_wp2_with fail
    refine (HRc.out _).mono ?_
    rintro e w2 ⟨rfl, hB⟩
    have HE := Lib.hid (RsEnd.same HRs.out (HBa.out.trans (hB.mono HBa.out.size)) 3)
    clear hB
    go_wp2_with fail
    go_ret
    exact HE.out
  have hbI : ¬ (65536 : Int) < (rc.size : Int) := by rw [hrc]; omega
  by_cases hg : getL L k = (v, true)
  · have ho : refPutOut L m z k v free = (0, L, z) := by unfold refPutOut; rw [if_neg hbig, if_pos hg]
    rw [ho]
    have HSt2 := Lib.hid (show ∀ w1, Below w.heap.size w w1 → Calls Try.prog 25 #[.pointer (some ⟨b, 0, none⟩), .agg #[.string k, .string v]] w1 (StrsEnd [] w1) from fun w1 hB => by
      have := HSt.out w1 hB
      rwa [show stepsRs L m k v = [] from by unfold stepsRs; rw [if_pos hg]] at this)
    clear ho hrc hg HSt hbig
    go_enter Try.func34, Try.ntmps34
    go_upto_region 2 with fail
    generalize w.alloc (.cells #[.string k, .string v] 56) = w1 at *
    go_wp2_with fail
    refine (HRc.out _).mono ?_
    rintro e w2 ⟨rfl, hB⟩
    have d0 := (hB.cell (p := ⟨w.heap.size, 0, none⟩) (lt_of_block Hbx.out)).trans c0
    have d1 := (hB.cell (p := ⟨w.heap.size, 1, none⟩) (lt_of_block Hbx.out)).trans c1
    have HB2 := Lib.hid (HBa.out.trans (hB.mono HBa.out.size))
    have HS3 := Lib.hid (HSt2.out w2 HB2.out)
    clear hB c0 c1
    go_wp2_with fail
    refine HS3.out.mono ?_
    rintro e w3 ⟨u, rfl, hown, hB⟩
    obtain ⟨⟨pu, cu, hu⟩, _⟩ := parts_cells hown
    have HE := Lib.hid (RsEnd.same HRs.out (HB2.out.trans (hB.mono HB2.out.size)) 0)
    subst hu
    simp only [List.length_nil]
    clear hB hown d0 d1
    go_wp2_with fail
    go_ret
    exact HE.out
  · have ho : refPutOut L m z k v free = writeOut L z (putRs L m k v) free := by unfold refPutOut; rw [if_neg hbig, if_neg hg]
    rw [ho]
    have HSt2 := Lib.hid (show ∀ w1, Below w.heap.size w w1 → Calls Try.prog 25 #[.pointer (some ⟨b, 0, none⟩), .agg #[.string k, .string v]] w1 (StrsEnd (putRs L m k v) w1) from fun w1 hB => by
      have := HSt.out w1 hB
      rwa [show stepsRs L m k v = putRs L m k v from by unfold stepsRs; rw [if_neg hg]] at this)
    rw [← hrc] at hbig
    have Hbig := Lib.hid hbig
    clear ho hrc hg HSt hbig
    generalize writeOut L z (putRs L m k v) free = o9 at *
    generalize putRs L m k v = R at *
    have hRI : ((R.length : Int) == 0) = false := beq_eq_false_iff_ne.2 (by omega)
    go_enter Try.func34, Try.ntmps34
    go_upto_region 2 with fail
    generalize w.alloc (.cells #[.string k, .string v] 56) = w1 at *
    go_wp2_with fail
    refine (HRc.out _).mono ?_
    rintro e w2 ⟨rfl, hB⟩
    have d0 := (hB.cell (p := ⟨w.heap.size, 0, none⟩) (lt_of_block Hbx.out)).trans c0
    have d1 := (hB.cell (p := ⟨w.heap.size, 1, none⟩) (lt_of_block Hbx.out)).trans c1
    have HB2 := Lib.hid (HBa.out.trans (hB.mono HBa.out.size))
    have HS3 := Lib.hid (HSt2.out w2 HB2.out)
    clear hB c0 c1
    go_wp2_with fail
    refine HS3.out.mono ?_
    rintro e w3 ⟨u, rfl, hown, hB⟩
    obtain ⟨⟨pu, cu, hu⟩, _⟩ := parts_cells hown
    have HB3 := Lib.hid (HB2.out.trans (hB.mono HB2.out.size))
    have HW := Lib.hid (HWr.out w3 u Hbig.out HB3.out (own_base hown HB2.out.size))
    subst hu
    clear hB hown d0 d1
    go_wp2_with fail
    refine HW.out.mono ?_
    rintro e w4 hr
    have HE := Lib.hid (hr.pre HB3.out)
    obtain ⟨he, _⟩ := hr
    subst he
    go_wp2_with fail
    go_ret
    exact HE.out
def refEvictOut (L : List En) (z n free : Int) : Int × List En × Int :=
  if n < 0 then (1, L, z) else if (evictRs L n).length = 0 then (0, L, z) else writeOut L z (evictRs L n) free
set_option maxRecDepth 100000 in
set_option maxHeartbeats 2000000 in
/-- The eldest go. -/
theorem refEvict_any {T : Nat → Prop} {b : Nat} {m : Int} {L : List En} {z : Int} {w : World} (rs : Rs T b m L z w) (hT : ∀ k, T k → k < w.heap.size) (nd : (L.map (·.1)).Nodup) (hzz : 0 ≤ z ∧ z ≤ 1099511627776) (hl : L.length ≤ 8192) (hkey : ∀ e ∈ L, e.1.size ≤ 65536) (n : Int) (hz : bytesN (evictRs L n) ≤ 1073741824) (free : Int) :
    Calls Try.prog 35 #[.pointer (some ⟨b, 0, none⟩), .int .i64 n, .int .i64 free] w (RsEnd T b m (refEvictOut L z n free) w) := by
  unfold refEvictOut
  by_cases hn : n < 0
  · rw [if_pos hn]
    have HE := Lib.hid (RsEnd.same rs (Below.refl _ w) 1)
    clear rs hT nd hkey hz
    go_enter Try.func35, Try.ntmps35
    go_wp2_with fail
    go_ret
    exact HE.out
  rw [if_neg hn]
  obtain ⟨n0, rfl⟩ : ∃ n0 : Nat, n = (n0 : Int) := ⟨n.toNat, by omega⟩
  obtain ⟨oo, hoo⟩ : ∃ oo, oo = (if (evictRs L (n0 : Int)).length = 0 then (0, L, z) else writeOut L z (evictRs L (n0 : Int)) free) := ⟨_, rfl⟩
  rw [← hoo]
  have Hoo := Lib.hid hoo
  clear hoo
  have HRs := Lib.hid rs
  have HKy := Lib.hid hkey
  have HWr := Lib.hid (fun (w2 : World) (u : Value) (hB : Below w.heap.size w w2) (hu : w2.ownsRow w.heap.size 9 1 u (evictRs L n0).length ((evictRs L n0).map Value.string)) => write_any (rs.below hB) nd hzz (evictRs L n0) u w.heap.size hu hT hz (fun r hr => by
    obtain ⟨x, hx, rfl⟩ := List.mem_map.1 hr
    rw [goneB_size]
    have := hkey x (List.mem_of_mem_take hx)
    omega) (by unfold evictRs; rw [List.length_map, List.length_take]; omega) free)
  have HEv := Lib.hid (show evictRs L n0 = (L.take n0).map (fun e => goneB e.1) from by unfold evictRs; rw [Int.toNat_natCast])
  obtain ⟨lv, hbx, hrow⟩ := rs.f
  obtain ⟨p, c, rfl, hp⟩ := gen_shape hrow.lat
  have HL := Lib.hid hrow.lat
  have c1 := block_cell hbx 1
  rw [show (rsA m (.slice p L.length c) z)[1]? = some (.slice p L.length c) from rfl] at c1
  clear rs hT nd hkey hz hbx hrow hn
  go_enter Try.func35, Try.ntmps35
  go_wp2_with fail
  go_loopg [7, 8, 9, 17] L.length (fun g v _ _ iv wr => ∃ j : Nat, j + g = L.length ∧ iv = .int .i64 j ∧ Hid (wr.ownsRow w.heap.size 9 1 v ((L.take (min j n0)).map (fun e => goneB e.1)).length (LF (fun s : ByteArray => [Value.string s]) ((L.take (min j n0)).map (fun e => goneB e.1)))) ∧ Hid (Below w.heap.size w wr))
  case atStart => exact ⟨0, by omega, rfl, Lib.hid ⟨by simp [LF], .inl ⟨rfl, rfl⟩⟩, Lib.hid (Below.refl _ _)⟩
  case round =>
    obtain ⟨j, hjg, rfl, HO, HB⟩ := hrel
    by_cases hj : j < L.length
    · have hjI : (j : Int) < (L.length : Int) := by omega
      obtain ⟨g0, off, rfl⟩ := hp (by omega)
      obtain ⟨x1, x2, hx⟩ : ∃ x1 x2, L[j] = (x1, x2) := ⟨_, _, rfl⟩
      have hxi : L[j]? = some (x1, x2) := by rw [List.getElem?_eq_getElem hj, hx]
      obtain ⟨hg, hc0, hc1⟩ := HL.out.cellsN hxi
      have e0 := (HB.out.cell (p := ⟨g0, off + j * 2, none⟩) hg).trans hc0
      have e1 := (HB.out.cell (p := ⟨g0, off + j * 2 + 1, none⟩) hg).trans hc1
      obtain ⟨hbB, hbh⟩ := box2T wr x1 x2 56
      have b0 := block_cell hbh 0
      have b1 := block_cell hbh 1
      have HB2 := Lib.hid (HB.out.trans (hbB.mono HB.out.size))
      have HO2 := Lib.hid (gen_own_below HO.out hbB)
      have hxs := HKy.out (x1, x2) (List.mem_of_getElem? hxi)
      dsimp only at hxs
      by_cases hjn : j < n0
      · have hjnI : (j : Int) < (n0 : Int) := by omega
        have HG := Lib.hid (show (L.take (min (j + 1) n0)).map (fun e => goneB e.1) = (L.take (min j n0)).map (fun e => goneB e.1) ++ [goneB x1] from by
          rw [Nat.min_eq_left (by omega), Nat.min_eq_left (by omega), List.take_add_one, hxi, List.map_append]; rfl)
        have hG0l : ((L.take (min j n0)).map (fun e : En => goneB e.1)).length ≤ L.length := by rw [List.length_map, List.length_take]; omega
        have HGn := Lib.hid (fun w5 => gone_any x1 w5 (by omega))
        generalize goneB x1 = rr at *
        generalize (L.take (min j n0)).map (fun e : En => goneB e.1) = G0 at *
        clear hx hxi hc0 hc1 hbB hbh HO hxs
        go_upto_region 7 with fail
        generalize wr.alloc (.cells #[.string x1, .string x2] 56) = w2 at *
        clear e0 e1 hg
        go_wp2_with fail
        refine (HGn.out _).mono ?_
        rintro e w3 ⟨rfl, hB3⟩
        have HB3 := Lib.hid (HB2.out.trans (hB3.mono HB2.out.size))
        have HO3 := Lib.hid (gen_own_below HO2.out hB3)
        have hsz3 := HB3.out.size
        clear hB3 HGn b0 b1
        go_wp2_with (at_builtin; go_must (refine wpList_append_gen eltS rfl (.tmp 25) (.tmp 29) rfl rfl w.heap.size _ G0 rfl (gen_own_below HO3.out ((Below.refl w3.heap.size w3).alloc (Nat.le_refl _) (.cells #[.string rr] 9))) _ [rr] (LAt.block rfl rfl (heap_alloc_new w3 (.cells #[.string rr] 9))) rfl (by simp only [List.length_cons, List.length_nil]; omega) (by unfold maxLen; simp only [List.length_cons, List.length_nil]; omega) (by simp; omega) ?_); intro v4 w4 hown4 hgrow4)
        have HB4 := Lib.hid ((HB3.out.trans (((Below.refl w3.heap.size w3).alloc (Nat.le_refl _) (.cells #[.string rr] 9)).mono HB3.out.size)).grown hgrow4 (by simp; omega) (fun k hk => (HO3.out.lt k hk).1))
        go_roundg (gk - 1)
        case measure => omega
        case rel =>
          refine ⟨j + 1, by omega, by go_num, Lib.hid ?_, HB4⟩
          rw [HG.out]
          exact hown4
      · have hjnI : ¬ (j : Int) < (n0 : Int) := by omega
        have HG := Lib.hid (show min (j + 1) n0 = min j n0 from by omega)
        clear hx hxi hc0 hc1 hbB hbh HO hxs
        go_upto_region 7 with fail
        generalize wr.alloc (.cells #[.string x1, .string x2] 56) = w2 at *
        clear e0 e1 hg
        go_wp2_with fail
        go_roundg (gk - 1)
        case measure => omega
        case rel =>
          refine ⟨j + 1, by omega, by go_num, Lib.hid ?_, HB2⟩
          rw [HG.out]
          exact HO2.out
    · obtain rfl : j = L.length := by omega
      have hjI : ¬ (L.length : Int) < (L.length : Int) := by omega
      have HE := Lib.hid (show (L.take (min L.length n0)).map (fun e => goneB e.1) = evictRs L n0 from by
        rw [HEv.out, show L.take (min L.length n0) = L.take n0 from by rw [List.take_eq_take_iff]; omega])
      have ho := HO.out
      rw [HE.out, LF_strs] at ho
      obtain ⟨⟨pu, cu, hu⟩, hjunk⟩ := parts_cells ho
      clear hjunk
      have HW := Lib.hid (HWr.out wr _ HB.out ho)
      have HQ := Lib.hid (RsEnd.same HRs.out HB.out 0)
      subst hu
      clear ho HO HWr HEv HE c1 HL HKy
      generalize writeOut L z (evictRs L n0) free = o9 at *
      generalize (evictRs L n0).length = q at *
      by_cases hq : q = 0
      · have Hoe := Lib.hid (show oo = (0, L, z) from by rw [Hoo.out, if_pos hq])
        subst hq
        go_wp2_with fail
        go_ret
        rw [Hoe.out]
        exact HQ.out
      · have Hoe := Lib.hid (show oo = o9 from by rw [Hoo.out, if_neg hq])
        have hqI : ((q : Int) == 0) = false := beq_eq_false_iff_ne.2 (by omega)
        go_wp2_with fail
        refine HW.out.mono ?_
        rintro e w4 hr
        have HE := Lib.hid (hr.pre HB.out)
        obtain ⟨he, _⟩ := hr
        subst he
        go_wp2_with fail
        go_ret
        rw [Hoe.out]
        exact HE.out
def refCompOut (L : List En) (z free : Int) : Int × List En × Int := if free < (bytesN (L.map putB) : Int) then (6, L, z) else (0, L, (bytesN (L.map putB) : Int))
set_option maxRecDepth 100000 in
set_option maxHeartbeats 2000000 in
/-- The entries alone. -/
theorem refCompact_any {T : Nat → Prop} {b : Nat} {m : Int} {L : List En} {z : Int} {w : World} (rs : Rs T b m L z w) (hl : L.length ≤ 8192) (hkey : ∀ e ∈ L, e.1.size ≤ 1048576 ∧ e.2.size ≤ 1048576) (hz : bytesN (L.map putB) ≤ 1073741824) (free : Int) :
    Calls Try.prog 36 #[.pointer (some ⟨b, 0, none⟩), .int .i64 free] w (RsEnd T b m (refCompOut L z free) w) := by
  have HRs := Lib.hid rs
  have HKy := Lib.hid hkey
  have HTb := Lib.hid rs.t
  obtain ⟨n, hn⟩ : ∃ n, n = bytesN (L.map putB) := ⟨_, rfl⟩
  have HBy := Lib.hid (show ∀ w1 u, Strs w1 u (L.map putB) → Calls Try.prog 62 #[u] w1 fun e w' => e = .returned (.int .i64 (n : Nat)) ∧ Below w1.heap.size w1 w' from fun w1 u hu => by rw [hn]; exact bytesL_any _ u w1 hu hz)
  rw [← hn] at hz
  have Hn := Lib.hid hn
  obtain ⟨oo, hoo⟩ : ∃ oo, oo = refCompOut L z free := ⟨_, rfl⟩
  rw [← hoo]
  have Hoo := Lib.hid hoo
  clear hoo
  obtain ⟨lv, hbx, hrow⟩ := rs.f
  obtain ⟨p, c, rfl, hp⟩ := gen_shape hrow.lat
  have HL := Lib.hid hrow.lat
  have Hrow := Lib.hid hrow
  have Hbx := Lib.hid hbx
  have c1 := block_cell hbx 1
  rw [show (rsA m (.slice p L.length c) z)[1]? = some (.slice p L.length c) from rfl] at c1
  clear rs hkey hbx hrow hn
  go_enter Try.func36, Try.ntmps36
  go_wp2_with fail
  go_loopg [5, 7, 13] L.length (fun g v _ iv wr => ∃ j : Nat, j + g = L.length ∧ iv = .int .i64 j ∧ Hid (wr.ownsRow w.heap.size 9 1 v ((L.take j).map putB).length (LF (fun s : ByteArray => [Value.string s]) ((L.take j).map putB))) ∧ Hid (Below w.heap.size w wr))
  case atStart => exact ⟨0, by omega, rfl, Lib.hid ⟨by simp [LF], .inl ⟨rfl, rfl⟩⟩, Lib.hid (Below.refl _ _)⟩
  case round =>
    obtain ⟨j, hjg, rfl, HO, HB⟩ := hrel
    by_cases hj : j < L.length
    · have hjI : (j : Int) < (L.length : Int) := by omega
      obtain ⟨g0, off, rfl⟩ := hp (by omega)
      obtain ⟨x1, x2, hx⟩ : ∃ x1 x2, L[j] = (x1, x2) := ⟨_, _, rfl⟩
      have hxi : L[j]? = some (x1, x2) := by rw [List.getElem?_eq_getElem hj, hx]
      obtain ⟨hg, hc0, hc1⟩ := HL.out.cellsN hxi
      have e0 := (HB.out.cell (p := ⟨g0, off + j * 2, none⟩) hg).trans hc0
      have e1 := (HB.out.cell (p := ⟨g0, off + j * 2 + 1, none⟩) hg).trans hc1
      obtain ⟨hbB, hbh⟩ := box2T wr x1 x2 56
      have b0 := block_cell hbh 0
      have b1 := block_cell hbh 1
      have HB2 := Lib.hid (HB.out.trans (hbB.mono HB.out.size))
      have HO2 := Lib.hid (gen_own_below HO.out hbB)
      have hxs := HKy.out (x1, x2) (List.mem_of_getElem? hxi)
      dsimp only at hxs
      have HG := Lib.hid (show (L.take (j + 1)).map putB = (L.take j).map putB ++ [putB (x1, x2)] from by rw [List.take_add_one, hxi, List.map_append]; rfl)
      have hG0l : ((L.take j).map putB).length = j := by rw [List.length_map, List.length_take]; omega
      have HGn := Lib.hid (fun w5 => record_any x1 x2 w5 (by omega) (by omega))
      generalize putB (x1, x2) = rr at *
      generalize (L.take j).map putB = G0 at *
      have hjb : G0.length + 1 ≤ 8388609 := by omega
      clear hx hxi hc0 hc1 hbB hbh HO hxs hG0l
      go_upto_region 5 with fail
      generalize wr.alloc (.cells #[.string x1, .string x2] 56) = w2 at *
      clear e0 e1 hg
      go_wp2_with fail
      refine (HGn.out _).mono ?_
      rintro e w3 ⟨rfl, hB3⟩
      have HB3 := Lib.hid (HB2.out.trans (hB3.mono HB2.out.size))
      have HO3 := Lib.hid (gen_own_below HO2.out hB3)
      have hsz3 := HB3.out.size
      clear hB3 HGn b0 b1
      go_wp2_with (at_builtin; go_must (refine wpList_append_gen eltS rfl (.tmp 17) (.tmp 20) rfl rfl w.heap.size _ G0 rfl (gen_own_below HO3.out ((Below.refl w3.heap.size w3).alloc (Nat.le_refl _) (.cells #[.string rr] 9))) _ [rr] (LAt.block rfl rfl (heap_alloc_new w3 (.cells #[.string rr] 9))) rfl (by simp only [List.length_cons, List.length_nil]; omega) (by unfold maxLen; simp only [List.length_cons, List.length_nil]; omega) (by simp; omega) ?_); intro v4 w4 hown4 hgrow4)
      have HB4 := Lib.hid ((HB3.out.trans (((Below.refl w3.heap.size w3).alloc (Nat.le_refl _) (.cells #[.string rr] 9)).mono HB3.out.size)).grown hgrow4 (by simp; omega) (fun k hk => (HO3.out.lt k hk).1))
      go_roundg (gk - 1)
      case measure => omega
      case rel =>
        refine ⟨j + 1, by omega, by go_num, Lib.hid ?_, HB4⟩
        rw [HG.out]
        exact hown4
    · obtain rfl : j = L.length := by omega
      have hjI : ¬ (L.length : Int) < (L.length : Int) := by omega
      have HE := Lib.hid (show L.take L.length = L from List.take_length)
      have ho := HO.out
      rw [HE.out, LF_strs] at ho
      have HB1 := Lib.hid (HBy.out wr _ (Strs.ofRow ho))
      have HStr := Lib.hid (Strs.ofRow ho)
      clear ho HO HE c1 HL HKy
      by_cases hf : free < (n : Int)
      · have Hoe := Lib.hid (show oo = (6, L, z) from by rw [Hoo.out]; unfold refCompOut; rw [← Hn.out, if_pos hf])
        go_wp2_with fail
        refine HB1.out.mono ?_
        rintro e w2 ⟨rfl, hB⟩
        have HQ := Lib.hid (RsEnd.same HRs.out (HB.out.trans (hB.mono HB.out.size)) 6)
        clear hB
        go_wp2_with fail
        go_ret
        rw [Hoe.out]
        exact HQ.out
      · have Hoe := Lib.hid (show oo = (0, L, (n : Int)) from by rw [Hoo.out]; unfold refCompOut; rw [← Hn.out, if_neg hf])
        go_wp2_with fail
        refine HB1.out.mono ?_
        rintro e w2 ⟨rfl, hB⟩
        have HBb := Lib.hid (HB.out.trans (hB.mono HB.out.size))
        have HB3 := Lib.hid (HBy.out w2 _ (HStr.out.below hB))
        clear hB
        go_wp2_with fail
        refine HB3.out.mono ?_
        rintro e w3 ⟨rfl, hB⟩
        have HBc := Lib.hid (HBb.out.trans (hB.mono HBb.out.size))
        have hbx2 := (HBc.out.block b (lt_of_block Hbx.out)).trans Hbx.out
        have d2 := block_cell hbx2 2
        rw [show (rsA m (.slice p L.length c) z)[2]? = some (.int .i64 z) from rfl] at d2
        have f2 := block_free hbx2 2
        have HQ := Lib.hid (show RsEnd T b m (0, L, (n : Int)) w (.returned (.int .i64 0)) (w3.setCell ⟨b, 2, none⟩ (.int .i64 (n : Int))) from ⟨rfl, Rs.num hbx2 ((Hrow.out.below HBc.out).mono (fun k hk => .inl hk)) (.inl HTb.out), (Kept.of_below (S := fun k => k = b) HBc.out).trans' (kept_cell (T := fun k => k = b) (i := 2) rfl)⟩)
        clear hB hbx2
        go_wp2_with fail
        go_ret
        rw [Hoe.out]
        exact HQ.out
end Go.Proofs.Ytbdlmdmbaajcmaa
