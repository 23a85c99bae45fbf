/- TreeRefuses' walk. -/
import Derived.Test.YtdhaanaenklleaaDoorXVZ
import Derived.Deep.OwnRows
import Derived.Lib.SlBytesRow
namespace Go.Proofs.YtdhaanaenklleaaDoor
set_option linter.unusedVariables false
set_option linter.unusedSimpArgs false
open Go.ChangeShapes Go.WideShapes Go.ChangeAt Go.RowKit

theorem own_setIn8 {w : World} {base : Nat} {e : TypeId} {sz g cap n m : Nat} {xs : List Value} (h : w.ownsRow base e sz (.slice (some ⟨g, 0, none⟩) n cap) m xs) (j : Nat) (u : Value) :
    (w.setCell ⟨g, j, none⟩ u).ownsRow base e sz (.slice (some ⟨g, 0, none⟩) n cap) m (xs.set j u) := by
  refine ⟨by rw [List.length_set]; exact h.1, ?_⟩
  rcases h.2 with ⟨hv, _⟩ | ⟨g', cap', cur, hv, hb, hg, h1, h2, h3, h4⟩
  · cases hv
  · injection hv with hv1 hv2 hv3
    injection hv1 with hv1
    injection hv1 with hv4 hv5
    subst hv4; subst hv3
    refine .inr ⟨g, cap, cur.setIfInBounds j u, by rw [hv2], hb, set_box8 hg, h1, h2, by rw [Array.size_setIfInBounds]; exact h3, ?_⟩
    rw [← h4, Array.toList_setIfInBounds, List.take_set]
theorem lf_put : ∀ (l : List Fil) (k : Nat) (h : k < l.length) (s : ByteArray), (LF filV l).set (k * 2 + 1) (.string s) = LF filV (l.set k (l[k].1, s, ()))
  | [], k, h, s => by simp at h
  | f :: r, 0, h, s => rfl
  | f :: r, k + 1, h, s => by
    have ih := lf_put r k (by simpa using h) s
    have e1 : LF filV (f :: r) = .string f.1 :: .string f.2.1 :: LF filV r := rfl
    rw [e1, show (k + 1) * 2 + 1 = (k * 2 + 1) + 1 + 1 by omega, List.set_cons_succ, List.set_cons_succ, ih]
    rfl
def zerosB (n : Nat) : ByteArray := ⟨Array.replicate n 0⟩
theorem zerosB_size (n : Nat) : (zerosB n).size = n := by simp [zerosB, ByteArray.size]
theorem zerosB_get (n i : Nat) (h : i < (zerosB n).size) : (zerosB n)[i] = 0 := by
  show (Array.replicate n (0 : UInt8))[i]'(by simpa [zerosB, ByteArray.size] using h) = 0
  simp
theorem own_rows2 {w : World} {base n : Nat} {v : Value} {l : List Fil} (hz : ∀ x ∈ l, x.1.size ≤ 140737488351232 ∧ x.2.1.size ≤ 140737488351232) (hn : n = l.length) (h : w.ownsRow base 61 2 v n (LF filV l)) : Rows w 2 filR v l := by
  subst hn; exact own_rows hz h
theorem zeros_conv (w : World) : (convert 59 9 (.slice (some ⟨w.heap.size, 0, none⟩) 32769 32769)).run Tryd.prog (w.alloc (.cells (madeCells #[.int .u8 0] 32769) 5)) = .ok (.string (zerosB 32769)) (w.alloc (.cells (madeCells #[.int .u8 0] 32769) 5)) := by
  have h := Lib.run_convert_whole (P := Tryd.prog) (w.alloc (.cells (madeCells #[.int .u8 0] 32769) 5)) 59 5 9 Tryd.underlying59 Tryd.underlying5 Tryd.underlying9 w.heap.size 0 (zerosB 32769) (fun i hi => by
    rw [zerosB_size] at hi
    rw [Nat.zero_add, block_cell (heap_alloc_new w _)]
    have hg : (zerosB 32769)[i]'(by rw [zerosB_size]; exact hi) = 0 := zerosB_get _ _ _
    simp [madeCells, hi, Nat.mod_one, hg]) 32769
  rwa [zerosB_size] at h
set_option maxRecDepth 100000 in
set_option maxHeartbeats 8000000 in
theorem refuses_walk {W : World} {a : List Fil} {u : Value} {z : Int} (hM : MaxAt W) (hK : S.KeysAt W) (ha : Rows W 2 filR u a) : Calls Tryd.prog 8 #[u, .int .i64 z] W (fun e w' => e = .returned (.bool true) ∧ Below W.heap.size W w') := by
  have HM := Lib.hid hM
  have HK := Lib.hid hK
  have Ha := Lib.hid ha
  have hM1 := hM.1
  clear hM hK ha
  go_enter Tryd.func8, Tryd.ntmps8
  go_wp2_with fail
  refine (alive8_any W HK.out HM.out).mono ?_
  rintro e w1 ⟨rfl, hB1⟩
  have HB1 := Lib.hid hB1
  have HGa := Lib.hid (greatF_any u a 60 4096 w1 (Ha.out.below hB1) (by omega) (by omega))
  clear hB1
  go_wp2_with fail
  refine HGa.out.mono ?_
  rintro e w2 ⟨rfl, hB2⟩
  have HB2 := Lib.hid (HB1.out.trans (hB2.mono HB1.out.size))
  clear hB2 HGa HB1
  cases hga : greatF a 60 4096 with
  | true =>
    clear hga
    go_wp2_with fail
    go_ret
    exact ⟨rfl, HB2.out⟩
  | false =>
  obtain ⟨hla, hsa⟩ := greatF_no hga
  have Hsa := Lib.hid (sum_size hsa)
  have Hra := Lib.hid (rows_sizes Ha.out)
  have hN1 := heap_alloc_new w2 (.cells #[] 61)
  have hBn := (Below.refl w2.heap.size w2).alloc (Nat.le_refl _) (.cells #[] 61)
  have HN1 := Lib.hid hN1
  have HBn := Lib.hid hBn
  have HV1 := Lib.hid (LAt.ofRows (by decide) filR_eq (Ha.out.below (HB2.out.trans (hBn.mono HB2.out.size))))
  obtain ⟨len, hln⟩ : ∃ len, len = a.length := ⟨_, rfl⟩
  have Hln := Lib.hid hln
  have hlen : len ≤ 60 := by omega
  clear hga hsa hN1 hBn hln
  go_upto_region 6 with (at_builtin; go_must (refine wpList_append_first eltF rfl (.tmp 13) (.tmp 14) rfl rfl w2.heap.size w2.heap.size rfl HN1.out (Nat.le_refl _) _ a HV1.out rfl (by omega) HBn.out.size ?_); intro v4 w4 hown4 hB4)
  obtain ⟨p4, c4, hv4⟩ := own_slice2 hown4
  subst hv4
  have HB4 := Lib.hid (HB2.out.trans ((HBn.out.trans (hB4.mono HBn.out.size)).mono HB2.out.size))
  have hs2 := HB2.out.size
  rw [← Hln.out] at hown4
  have Hown4 := Lib.hid hown4
  rw [← Hln.out]
  clear hB4 hown4
  have HKx := Lib.hid (fun wx (hx : Below W.heap.size W wx) => (HK.out.below HK.out.1 (hx.mono (by omega)) : S.KeysAt wx))
  have HMx := Lib.hid (fun wx (hx : Below W.heap.size W wx) => HM.out.below hx)
  by_cases hzz : 0 ≤ z ∧ z < (len : Int)
  · obtain ⟨hz0, hz1⟩ := hzz
    obtain ⟨k, rfl⟩ := Int.eq_ofNat_of_zero_le hz0
    have hkl : k < a.length := by have := Hln.out; omega
    rcases Hown4.out.2 with ⟨hv, h0⟩ | ⟨g, cap, cur, hv, hbg, hg, hcap, hmax, hsz, htk⟩
    · exfalso; have := Hln.out; omega
    injection hv with hv1 hv2 hv3
    subst hv1; subst hv3
    have Hg := Lib.hid hg
    have hcs : k * 2 + 1 < cur.size := by have := Hln.out; omega
    have hmk := fun w1 => run_make_row' (P := Tryd.prog) 59 5 (.int .u8 0) 1 Tryd.underlying59 (by kernel_rfl) rfl .i64 .i64 32769 (by omega) (by omega) w1
    have hcv := zeros_conv w4
    obtain ⟨M, hMe⟩ : ∃ M, M = madeCells #[.int .u8 0] 32769 := ⟨_, rfl⟩
    rw [← hMe] at hmk hcv
    have hmk2 : ∀ w1, (Instr.makeSlice 59 (.int .i64 32769) (.int .i64 32769)).run Tryd.prog w1 = .ok (.slice (some ⟨w1.heap.size, 0, none⟩) 32769 32769) (w1.alloc (.cells M 5)) := hmk
    have hBm := (Below.refl w4.heap.size w4).alloc (Nat.le_refl _) (.cells M 5)
    have hgm := (hBm.block _ (lt_of_block hg)).trans hg
    have hc1 : (w4.alloc (.cells M 5)).cell? ⟨g, k * 2 + 1, none⟩ = some (cur[k * 2 + 1]'hcs) := by rw [block_cell hgm]; exact Array.getElem?_eq_getElem hcs
    have hf1 : (w4.alloc (.cells M 5)).frozen? ⟨g, k * 2 + 1, none⟩ = false := block_free hgm _
    obtain ⟨zs, hzs⟩ : ∃ y, y = zerosB 32769 := ⟨_, rfl⟩
    rw [← hzs] at hcv
    have Hzs := Lib.hid hzs
    have hownM := gen_own_below Hown4.out hBm
    have hnew := own_setIn8 hownM (k * 2 + 1) (.string zs)
    rw [lf_put a k hkl zs] at hnew
    have HBs := Lib.hid (show Below W.heap.size W ((w4.alloc (.cells M 5)).setCell ⟨g, k * 2 + 1, none⟩ (.string zs)) from (HB4.out.trans (hBm.mono HB4.out.size)).setCell (p := ⟨g, k * 2 + 1, none⟩) (by show W.heap.size ≤ g; omega) _)
    have Hnew := Lib.hid hnew
    have HL := Lib.hid (show ∃ l : List Fil, l = a.set k (a[k].1, zs, ()) ∧ l.length = len ∧ (∀ x ∈ l, x.1.size ≤ 4096) ∧ (∀ x ∈ l, x.1.size ≤ 140737488351232 ∧ x.2.1.size ≤ 140737488351232) ∧ (whyF l = 0 → ∀ x ∈ l, x.2.1.size ≤ 4096) from by
      refine ⟨_, rfl, by rw [List.length_set]; exact Hln.out.symm, fun x hx => ?_, fun x hx => ?_, fun h => ?_⟩
      · rcases List.mem_or_eq_of_mem_set hx with h | h
        · exact (Hsa.out x h).1
        · rw [h]; exact (Hsa.out _ (List.getElem_mem hkl)).1
      · rcases List.mem_or_eq_of_mem_set hx with h | h
        · exact Hra.out x h
        · rw [h]
          exact ⟨(Hra.out _ (List.getElem_mem hkl)).1, by show zs.size ≤ _; rw [Hzs.out, zerosB_size]; omega⟩
      · exfalso
        have hlong : longF (a.set k (a[k].1, zs, ())) = true := by
          unfold longF
          rw [List.any_eq_true]
          exact ⟨(a[k].1, zs, ()), List.mem_set hkl _, by apply decide_eq_true; show 32768 < zs.size; rw [Hzs.out, zerosB_size]; omega⟩
        unfold whyF at h
        split at h
        · cases h
        · split at h
          · cases h
          · first | (cases h) | (rw [if_pos hlong] at h; cases h))
    obtain ⟨l, hle, hll, hlz, hlr, hls⟩ := HL.out
    rw [← hle] at Hnew
    have Hll := Lib.hid hll
    have Hlz := Lib.hid hlz
    have Hlr := Lib.hid hlr
    have Hls := Lib.hid hls
    have hkI : (0 : Int) ≤ (k : Int) := hz0
    clear hle hll hlz hlr hls HL hnew hownM hgm hBm hMe hmk hzs hg hcap hmax hsz htk hv2 hz0
    go_upto_region 8 with fail
    generalize (w4.alloc (.cells M 5)).setCell ⟨g, k * 2 + 1, none⟩ (.string zs) = w5 at *
    clear hc1 hf1 hcv hmk2
    have HR := Lib.hid (own_rows2 Hlr.out Hll.out.symm Hnew.out)
    go_wp2_with fail
    refine (new_any w5).mono ?_
    rintro e w6 ⟨b1, rfl, hS1, hB6⟩
    have hs5 := HBs.out.size
    have HB6 := Lib.hid (HBs.out.trans (hB6.mono hs5))
    have hH := hav_new (X := fun _ => False) (by omega) (fun q hq => hq.elim) hS1
    have HT1 := Lib.hid (show ∀ q, (w5.heap.size ≤ q ∧ q < w6.heap.size) → W.heap.size ≤ q from fun q hq => by omega)
    have HR6 := Lib.hid (HR.out.below hB6)
    have HBu := Lib.hid (build_any hH (HKx.out _ HB6.out) (HMx.out _ HB6.out) (.slice (some ⟨g, 0, none⟩) len c4) l HR6.out (by have := Hll.out; omega) (fun x hx => by have := Hlz.out x hx; omega) Hls.out (by omega) (by omega))
    have HBz := Lib.hid hB6
    clear hS1 hB6 hH hs5
    go_wp2_with fail
    refine HBu.out.mono ?_
    rintro e w7 (⟨hne, rfl, hH7, hB7⟩ | ⟨hw0, l1, -, -, -, rfl, nb1, nt1, -, -, hK7⟩)
    · have HB7 := Lib.hid (HB6.out.trans (hB7.mono HB6.out.size))
      have HH7 := Lib.hid hH7
      have HR7 := Lib.hid (HR6.out.below hB7)
      have Hz0 := Lib.hid (show (Tryd.prog.info? 37).map (·.size) = some (#[.int .u8 0, .int .u8 0, .int .u8 0, .int .u8 0, .int .u8 0, .int .u8 0, .int .u8 0, .int .u8 0, .int .u8 0, .int .u8 0, .int .u8 0, .int .u8 0, .int .u8 0, .int .u8 0, .int .u8 0, .int .u8 0, .int .u8 0, .int .u8 0, .int .u8 0, .int .u8 0, .int .u8 0, .int .u8 0, .int .u8 0, .int .u8 0, .int .u8 0, .int .u8 0, .int .u8 0, .int .u8 0, .int .u8 0, .int .u8 0, .int .u8 0, .int .u8 0] : Array Value).size by kernel_rfl)
      have Hone0 := Lib.hid (show (#[.int .u8 0, .int .u8 0, .int .u8 0, .int .u8 0, .int .u8 0, .int .u8 0, .int .u8 0, .int .u8 0, .int .u8 0, .int .u8 0, .int .u8 0, .int .u8 0, .int .u8 0, .int .u8 0, .int .u8 0, .int .u8 0, .int .u8 0, .int .u8 0, .int .u8 0, .int .u8 0, .int .u8 0, .int .u8 0, .int .u8 0, .int .u8 0, .int .u8 0, .int .u8 0, .int .u8 0, .int .u8 0, .int .u8 0, .int .u8 0, .int .u8 0, .int .u8 0] : Array Value).all (·.oneCell') = true by simp [Value.oneCell'])
      clear hH7 hB7 HBu
      go_upto_region 10 with (first | (refine wpList_store_rowTo rfl 37 (.tmp 7) (.tmp 35) rfl rfl w7.heap.size #[.int .u8 0, .int .u8 0, .int .u8 0, .int .u8 0, .int .u8 0, .int .u8 0, .int .u8 0, .int .u8 0, .int .u8 0, .int .u8 0, .int .u8 0, .int .u8 0, .int .u8 0, .int .u8 0, .int .u8 0, .int .u8 0, .int .u8 0, .int .u8 0, .int .u8 0, .int .u8 0, .int .u8 0, .int .u8 0, .int .u8 0, .int .u8 0, .int .u8 0, .int .u8 0, .int .u8 0, .int .u8 0, .int .u8 0, .int .u8 0, .int .u8 0, .int .u8 0] rfl rfl 37 _ (heap_alloc_new w7 _) Hz0.out (by rfl) Hone0.out ?_))
      have hBx := below_setRow ((Below.refl w7.heap.size w7).alloc (Nat.le_refl _) (.cells #[.int .u8 0, .int .u8 0, .int .u8 0, .int .u8 0, .int .u8 0, .int .u8 0, .int .u8 0, .int .u8 0, .int .u8 0, .int .u8 0, .int .u8 0, .int .u8 0, .int .u8 0, .int .u8 0, .int .u8 0, .int .u8 0, .int .u8 0, .int .u8 0, .int .u8 0, .int .u8 0, .int .u8 0, .int .u8 0, .int .u8 0, .int .u8 0, .int .u8 0, .int .u8 0, .int .u8 0, .int .u8 0, .int .u8 0, .int .u8 0, .int .u8 0, .int .u8 0] 37)) (g := w7.heap.size) (Nat.le_refl _) #[.int .u8 0, .int .u8 0, .int .u8 0, .int .u8 0, .int .u8 0, .int .u8 0, .int .u8 0, .int .u8 0, .int .u8 0, .int .u8 0, .int .u8 0, .int .u8 0, .int .u8 0, .int .u8 0, .int .u8 0, .int .u8 0, .int .u8 0, .int .u8 0, .int .u8 0, .int .u8 0, .int .u8 0, .int .u8 0, .int .u8 0, .int .u8 0, .int .u8 0, .int .u8 0, .int .u8 0, .int .u8 0, .int .u8 0, .int .u8 0, .int .u8 0, .int .u8 0]
      generalize (w7.alloc (.cells #[.int .u8 0, .int .u8 0, .int .u8 0, .int .u8 0, .int .u8 0, .int .u8 0, .int .u8 0, .int .u8 0, .int .u8 0, .int .u8 0, .int .u8 0, .int .u8 0, .int .u8 0, .int .u8 0, .int .u8 0, .int .u8 0, .int .u8 0, .int .u8 0, .int .u8 0, .int .u8 0, .int .u8 0, .int .u8 0, .int .u8 0, .int .u8 0, .int .u8 0, .int .u8 0, .int .u8 0, .int .u8 0, .int .u8 0, .int .u8 0, .int .u8 0, .int .u8 0] 37)).setRow w7.heap.size #[.int .u8 0, .int .u8 0, .int .u8 0, .int .u8 0, .int .u8 0, .int .u8 0, .int .u8 0, .int .u8 0, .int .u8 0, .int .u8 0, .int .u8 0, .int .u8 0, .int .u8 0, .int .u8 0, .int .u8 0, .int .u8 0, .int .u8 0, .int .u8 0, .int .u8 0, .int .u8 0, .int .u8 0, .int .u8 0, .int .u8 0, .int .u8 0, .int .u8 0, .int .u8 0, .int .u8 0, .int .u8 0, .int .u8 0, .int .u8 0, .int .u8 0, .int .u8 0] = w8 at *
      have HH8 := Lib.hid (HH7.out.below0 hBx)
      have HB8 := Lib.hid (HB7.out.trans (hBx.mono HB7.out.size))
      have HWy := Lib.hid (why_any (.slice (some ⟨g, 0, none⟩) len c4) l w8 (HR7.out.below hBx) (fun x hx => by have := Hlz.out x hx; omega) (by have := Hll.out; omega))
      obtain ⟨y, hy⟩ : ∃ y, y = whyF l := ⟨_, rfl⟩
      rw [← hy] at HWy hne ⊢
      have hyb : (y == 0) = false := beq_eq_false_iff_ne.2 hne
      have hyy : (y == y) = true := beq_self_eq_true _
      clear hBx HH7 HR7 hy HB7
      go_wp2_with fail
      refine HWy.out.mono ?_
      rintro e w9 ⟨rfl, hB9⟩
      have HSz := Lib.hid (show Calls Tryd.prog 39 #[.pointer (some ⟨b1, 0, none⟩)] w9 (fun e w' => e = .returned (.int .i64 ((0 + 0 + 0 : Nat) : Int)) ∧ Below w9.heap.size w9 w') from by
        obtain ⟨-, -, fb, ft, hS, -⟩ := HH8.out.below0 hB9
        exact size_any hS (by omega) (by omega) (by omega))
      have HB9 := Lib.hid (HB8.out.trans (hB9.mono HB8.out.size))
      clear hB9 HH8 HWy
      go_wp2_with fail
      refine HSz.out.mono ?_
      rintro e w10 ⟨rfl, hB10⟩
      have HB10 := Lib.hid (HB9.out.trans (hB10.mono HB9.out.size))
      clear hB10 HSz
      go_wp2_with fail
      go_ret
      exact ⟨rfl, HB10.out⟩
    · have HB7 := Lib.hid (HB6.out.trans (hK7.below HT1.out HB6.out.size))
      have hnew6 := gen_own_below Hnew.out HBz.out
      have hown7 := own_same hnew6 (fun q h1 h2 h3 => hK7.block q h2 (fun ht => by have := (own_lt Hnew.out h3).2; have := ht.1; omega))
      have HR7 := Lib.hid (own_rows2 Hlr.out Hll.out.symm hown7)
      obtain ⟨idv, hidv⟩ : ∃ y, y = tid (treeB (bldE 80 nilB l1)) := ⟨_, rfl⟩
      rw [← hidv]
      have Hil := Lib.hid (show idv.length = 32 by rw [hidv]; exact tid_len _)
      have Hz := Lib.hid (id_size Hil.out)
      have Hone := Lib.hid (id_one idv)
      have Hs32 := Lib.hid (show (bytV idv).toArray.size = 32 by rw [List.size_toArray, bytV_len, Hil.out])
      clear hK7 hnew6 hown7 hidv HBu
      go_upto_region 10 with (first | (refine wpList_store_rowTo rfl 37 (.tmp 7) (.tmp 35) rfl rfl w7.heap.size (bytV idv).toArray rfl rfl 37 _ (heap_alloc_new w7 _) Hz.out (by rw [Hs32.out]; rfl) Hone.out ?_))
      have hBx := below_setRow ((Below.refl w7.heap.size w7).alloc (Nat.le_refl _) (.cells #[.int .u8 0, .int .u8 0, .int .u8 0, .int .u8 0, .int .u8 0, .int .u8 0, .int .u8 0, .int .u8 0, .int .u8 0, .int .u8 0, .int .u8 0, .int .u8 0, .int .u8 0, .int .u8 0, .int .u8 0, .int .u8 0, .int .u8 0, .int .u8 0, .int .u8 0, .int .u8 0, .int .u8 0, .int .u8 0, .int .u8 0, .int .u8 0, .int .u8 0, .int .u8 0, .int .u8 0, .int .u8 0, .int .u8 0, .int .u8 0, .int .u8 0, .int .u8 0] 37)) (g := w7.heap.size) (Nat.le_refl _) (bytV idv).toArray
      generalize (w7.alloc (.cells #[.int .u8 0, .int .u8 0, .int .u8 0, .int .u8 0, .int .u8 0, .int .u8 0, .int .u8 0, .int .u8 0, .int .u8 0, .int .u8 0, .int .u8 0, .int .u8 0, .int .u8 0, .int .u8 0, .int .u8 0, .int .u8 0, .int .u8 0, .int .u8 0, .int .u8 0, .int .u8 0, .int .u8 0, .int .u8 0, .int .u8 0, .int .u8 0, .int .u8 0, .int .u8 0, .int .u8 0, .int .u8 0, .int .u8 0, .int .u8 0, .int .u8 0, .int .u8 0] 37)).setRow w7.heap.size (bytV idv).toArray = w8 at *
      have HB8 := Lib.hid (HB7.out.trans (hBx.mono HB7.out.size))
      have HWy := Lib.hid (why_any (.slice (some ⟨g, 0, none⟩) len c4) l w8 (HR7.out.below hBx) (fun x hx => by have := Hlz.out x hx; omega) (by have := Hll.out; omega))
      rw [hw0] at HWy
      clear hBx HR7 hw0 HB7
      go_wp2_with fail
      refine HWy.out.mono ?_
      rintro e w9 ⟨rfl, hB9⟩
      have HB9 := Lib.hid (HB8.out.trans (hB9.mono HB8.out.size))
      clear hB9 HWy
      go_wp2_with fail
      go_ret
      exact ⟨rfl, HB9.out⟩
  · have Hnew := Lib.hid Hown4.out
    have HBs := Lib.hid HB4.out
    have Hll := Lib.hid Hln.out.symm
    have Hlz := Lib.hid (fun x hx => (Hsa.out x hx).1 : ∀ x ∈ a, x.1.size ≤ 4096)
    have Hlr := Lib.hid Hra.out
    have Hls := Lib.hid (fun (_ : whyF a = 0) x (hx : x ∈ a) => (Hsa.out x hx).2)
    by_cases hz0 : 0 ≤ z
    · have hz1 : ¬ z < (len : Int) := fun h => hzz ⟨hz0, h⟩
      clear hzz
      go_upto_region 8 with fail
      have HR := Lib.hid (own_rows2 Hlr.out Hll.out.symm Hnew.out)
      go_wp2_with fail
      refine (new_any w4).mono ?_
      rintro e w6 ⟨b1, rfl, hS1, hB6⟩
      have hs5 := HBs.out.size
      have HB6 := Lib.hid (HBs.out.trans (hB6.mono hs5))
      have hH := hav_new (X := fun _ => False) (by omega) (fun q hq => hq.elim) hS1
      have HT1 := Lib.hid (show ∀ q, (w4.heap.size ≤ q ∧ q < w6.heap.size) → W.heap.size ≤ q from fun q hq => by omega)
      have HR6 := Lib.hid (HR.out.below hB6)
      have HBu := Lib.hid (build_any hH (HKx.out _ HB6.out) (HMx.out _ HB6.out) (.slice p4 len c4) a HR6.out (by have := Hll.out; omega) (fun x hx => by have := Hlz.out x hx; omega) Hls.out (by omega) (by omega))
      have HBz := Lib.hid hB6
      clear hS1 hB6 hH hs5
      go_wp2_with fail
      refine HBu.out.mono ?_
      rintro e w7 (⟨hne, rfl, hH7, hB7⟩ | ⟨hw0, l1, -, -, -, rfl, nb1, nt1, -, -, hK7⟩)
      · have HB7 := Lib.hid (HB6.out.trans (hB7.mono HB6.out.size))
        have HH7 := Lib.hid hH7
        have HR7 := Lib.hid (HR6.out.below hB7)
        have Hz0 := Lib.hid (show (Tryd.prog.info? 37).map (·.size) = some (#[.int .u8 0, .int .u8 0, .int .u8 0, .int .u8 0, .int .u8 0, .int .u8 0, .int .u8 0, .int .u8 0, .int .u8 0, .int .u8 0, .int .u8 0, .int .u8 0, .int .u8 0, .int .u8 0, .int .u8 0, .int .u8 0, .int .u8 0, .int .u8 0, .int .u8 0, .int .u8 0, .int .u8 0, .int .u8 0, .int .u8 0, .int .u8 0, .int .u8 0, .int .u8 0, .int .u8 0, .int .u8 0, .int .u8 0, .int .u8 0, .int .u8 0, .int .u8 0] : Array Value).size by kernel_rfl)
        have Hone0 := Lib.hid (show (#[.int .u8 0, .int .u8 0, .int .u8 0, .int .u8 0, .int .u8 0, .int .u8 0, .int .u8 0, .int .u8 0, .int .u8 0, .int .u8 0, .int .u8 0, .int .u8 0, .int .u8 0, .int .u8 0, .int .u8 0, .int .u8 0, .int .u8 0, .int .u8 0, .int .u8 0, .int .u8 0, .int .u8 0, .int .u8 0, .int .u8 0, .int .u8 0, .int .u8 0, .int .u8 0, .int .u8 0, .int .u8 0, .int .u8 0, .int .u8 0, .int .u8 0, .int .u8 0] : Array Value).all (·.oneCell') = true by simp [Value.oneCell'])
        clear hH7 hB7 HBu
        go_upto_region 10 with (first | (refine wpList_store_rowTo rfl 37 (.tmp 7) (.tmp 35) rfl rfl w7.heap.size #[.int .u8 0, .int .u8 0, .int .u8 0, .int .u8 0, .int .u8 0, .int .u8 0, .int .u8 0, .int .u8 0, .int .u8 0, .int .u8 0, .int .u8 0, .int .u8 0, .int .u8 0, .int .u8 0, .int .u8 0, .int .u8 0, .int .u8 0, .int .u8 0, .int .u8 0, .int .u8 0, .int .u8 0, .int .u8 0, .int .u8 0, .int .u8 0, .int .u8 0, .int .u8 0, .int .u8 0, .int .u8 0, .int .u8 0, .int .u8 0, .int .u8 0, .int .u8 0] rfl rfl 37 _ (heap_alloc_new w7 _) Hz0.out (by rfl) Hone0.out ?_))
        have hBx := below_setRow ((Below.refl w7.heap.size w7).alloc (Nat.le_refl _) (.cells #[.int .u8 0, .int .u8 0, .int .u8 0, .int .u8 0, .int .u8 0, .int .u8 0, .int .u8 0, .int .u8 0, .int .u8 0, .int .u8 0, .int .u8 0, .int .u8 0, .int .u8 0, .int .u8 0, .int .u8 0, .int .u8 0, .int .u8 0, .int .u8 0, .int .u8 0, .int .u8 0, .int .u8 0, .int .u8 0, .int .u8 0, .int .u8 0, .int .u8 0, .int .u8 0, .int .u8 0, .int .u8 0, .int .u8 0, .int .u8 0, .int .u8 0, .int .u8 0] 37)) (g := w7.heap.size) (Nat.le_refl _) #[.int .u8 0, .int .u8 0, .int .u8 0, .int .u8 0, .int .u8 0, .int .u8 0, .int .u8 0, .int .u8 0, .int .u8 0, .int .u8 0, .int .u8 0, .int .u8 0, .int .u8 0, .int .u8 0, .int .u8 0, .int .u8 0, .int .u8 0, .int .u8 0, .int .u8 0, .int .u8 0, .int .u8 0, .int .u8 0, .int .u8 0, .int .u8 0, .int .u8 0, .int .u8 0, .int .u8 0, .int .u8 0, .int .u8 0, .int .u8 0, .int .u8 0, .int .u8 0]
        generalize (w7.alloc (.cells #[.int .u8 0, .int .u8 0, .int .u8 0, .int .u8 0, .int .u8 0, .int .u8 0, .int .u8 0, .int .u8 0, .int .u8 0, .int .u8 0, .int .u8 0, .int .u8 0, .int .u8 0, .int .u8 0, .int .u8 0, .int .u8 0, .int .u8 0, .int .u8 0, .int .u8 0, .int .u8 0, .int .u8 0, .int .u8 0, .int .u8 0, .int .u8 0, .int .u8 0, .int .u8 0, .int .u8 0, .int .u8 0, .int .u8 0, .int .u8 0, .int .u8 0, .int .u8 0] 37)).setRow w7.heap.size #[.int .u8 0, .int .u8 0, .int .u8 0, .int .u8 0, .int .u8 0, .int .u8 0, .int .u8 0, .int .u8 0, .int .u8 0, .int .u8 0, .int .u8 0, .int .u8 0, .int .u8 0, .int .u8 0, .int .u8 0, .int .u8 0, .int .u8 0, .int .u8 0, .int .u8 0, .int .u8 0, .int .u8 0, .int .u8 0, .int .u8 0, .int .u8 0, .int .u8 0, .int .u8 0, .int .u8 0, .int .u8 0, .int .u8 0, .int .u8 0, .int .u8 0, .int .u8 0] = w8 at *
        have HH8 := Lib.hid (HH7.out.below0 hBx)
        have HB8 := Lib.hid (HB7.out.trans (hBx.mono HB7.out.size))
        have HWy := Lib.hid (why_any (.slice p4 len c4) a w8 (HR7.out.below hBx) (fun x hx => by have := Hlz.out x hx; omega) (by have := Hll.out; omega))
        obtain ⟨y, hy⟩ : ∃ y, y = whyF a := ⟨_, rfl⟩
        rw [← hy] at HWy hne ⊢
        have hyb : (y == 0) = false := beq_eq_false_iff_ne.2 hne
        have hyy : (y == y) = true := beq_self_eq_true _
        clear hBx HH7 HR7 hy HB7
        go_wp2_with fail
        refine HWy.out.mono ?_
        rintro e w9 ⟨rfl, hB9⟩
        have HSz := Lib.hid (show Calls Tryd.prog 39 #[.pointer (some ⟨b1, 0, none⟩)] w9 (fun e w' => e = .returned (.int .i64 ((0 + 0 + 0 : Nat) : Int)) ∧ Below w9.heap.size w9 w') from by
          obtain ⟨-, -, fb, ft, hS, -⟩ := HH8.out.below0 hB9
          exact size_any hS (by omega) (by omega) (by omega))
        have HB9 := Lib.hid (HB8.out.trans (hB9.mono HB8.out.size))
        clear hB9 HH8 HWy
        go_wp2_with fail
        refine HSz.out.mono ?_
        rintro e w10 ⟨rfl, hB10⟩
        have HB10 := Lib.hid (HB9.out.trans (hB10.mono HB9.out.size))
        clear hB10 HSz
        go_wp2_with fail
        go_ret
        exact ⟨rfl, HB10.out⟩
      · have HB7 := Lib.hid (HB6.out.trans (hK7.below HT1.out HB6.out.size))
        have hnew6 := gen_own_below Hnew.out HBz.out
        have hown7 := own_same hnew6 (fun q h1 h2 h3 => hK7.block q h2 (fun ht => by have := (own_lt Hnew.out h3).2; have := ht.1; omega))
        have HR7 := Lib.hid (own_rows2 Hlr.out Hll.out.symm hown7)
        obtain ⟨idv, hidv⟩ : ∃ y, y = tid (treeB (bldE 80 nilB l1)) := ⟨_, rfl⟩
        rw [← hidv]
        have Hil := Lib.hid (show idv.length = 32 by rw [hidv]; exact tid_len _)
        have Hz := Lib.hid (id_size Hil.out)
        have Hone := Lib.hid (id_one idv)
        have Hs32 := Lib.hid (show (bytV idv).toArray.size = 32 by rw [List.size_toArray, bytV_len, Hil.out])
        clear hK7 hnew6 hown7 hidv HBu
        go_upto_region 10 with (first | (refine wpList_store_rowTo rfl 37 (.tmp 7) (.tmp 35) rfl rfl w7.heap.size (bytV idv).toArray rfl rfl 37 _ (heap_alloc_new w7 _) Hz.out (by rw [Hs32.out]; rfl) Hone.out ?_))
        have hBx := below_setRow ((Below.refl w7.heap.size w7).alloc (Nat.le_refl _) (.cells #[.int .u8 0, .int .u8 0, .int .u8 0, .int .u8 0, .int .u8 0, .int .u8 0, .int .u8 0, .int .u8 0, .int .u8 0, .int .u8 0, .int .u8 0, .int .u8 0, .int .u8 0, .int .u8 0, .int .u8 0, .int .u8 0, .int .u8 0, .int .u8 0, .int .u8 0, .int .u8 0, .int .u8 0, .int .u8 0, .int .u8 0, .int .u8 0, .int .u8 0, .int .u8 0, .int .u8 0, .int .u8 0, .int .u8 0, .int .u8 0, .int .u8 0, .int .u8 0] 37)) (g := w7.heap.size) (Nat.le_refl _) (bytV idv).toArray
        generalize (w7.alloc (.cells #[.int .u8 0, .int .u8 0, .int .u8 0, .int .u8 0, .int .u8 0, .int .u8 0, .int .u8 0, .int .u8 0, .int .u8 0, .int .u8 0, .int .u8 0, .int .u8 0, .int .u8 0, .int .u8 0, .int .u8 0, .int .u8 0, .int .u8 0, .int .u8 0, .int .u8 0, .int .u8 0, .int .u8 0, .int .u8 0, .int .u8 0, .int .u8 0, .int .u8 0, .int .u8 0, .int .u8 0, .int .u8 0, .int .u8 0, .int .u8 0, .int .u8 0, .int .u8 0] 37)).setRow w7.heap.size (bytV idv).toArray = w8 at *
        have HB8 := Lib.hid (HB7.out.trans (hBx.mono HB7.out.size))
        have HWy := Lib.hid (why_any (.slice p4 len c4) a w8 (HR7.out.below hBx) (fun x hx => by have := Hlz.out x hx; omega) (by have := Hll.out; omega))
        rw [hw0] at HWy
        clear hBx HR7 hw0 HB7
        go_wp2_with fail
        refine HWy.out.mono ?_
        rintro e w9 ⟨rfl, hB9⟩
        have HB9 := Lib.hid (HB8.out.trans (hB9.mono HB8.out.size))
        clear hB9 HWy
        go_wp2_with fail
        go_ret
        exact ⟨rfl, HB9.out⟩
    · clear hzz
      go_upto_region 8 with fail
      have HR := Lib.hid (own_rows2 Hlr.out Hll.out.symm Hnew.out)
      go_wp2_with fail
      refine (new_any w4).mono ?_
      rintro e w6 ⟨b1, rfl, hS1, hB6⟩
      have hs5 := HBs.out.size
      have HB6 := Lib.hid (HBs.out.trans (hB6.mono hs5))
      have hH := hav_new (X := fun _ => False) (by omega) (fun q hq => hq.elim) hS1
      have HT1 := Lib.hid (show ∀ q, (w4.heap.size ≤ q ∧ q < w6.heap.size) → W.heap.size ≤ q from fun q hq => by omega)
      have HR6 := Lib.hid (HR.out.below hB6)
      have HBu := Lib.hid (build_any hH (HKx.out _ HB6.out) (HMx.out _ HB6.out) (.slice p4 len c4) a HR6.out (by have := Hll.out; omega) (fun x hx => by have := Hlz.out x hx; omega) Hls.out (by omega) (by omega))
      have HBz := Lib.hid hB6
      clear hS1 hB6 hH hs5
      go_wp2_with fail
      refine HBu.out.mono ?_
      rintro e w7 (⟨hne, rfl, hH7, hB7⟩ | ⟨hw0, l1, -, -, -, rfl, nb1, nt1, -, -, hK7⟩)
      · have HB7 := Lib.hid (HB6.out.trans (hB7.mono HB6.out.size))
        have HH7 := Lib.hid hH7
        have HR7 := Lib.hid (HR6.out.below hB7)
        have Hz0 := Lib.hid (show (Tryd.prog.info? 37).map (·.size) = some (#[.int .u8 0, .int .u8 0, .int .u8 0, .int .u8 0, .int .u8 0, .int .u8 0, .int .u8 0, .int .u8 0, .int .u8 0, .int .u8 0, .int .u8 0, .int .u8 0, .int .u8 0, .int .u8 0, .int .u8 0, .int .u8 0, .int .u8 0, .int .u8 0, .int .u8 0, .int .u8 0, .int .u8 0, .int .u8 0, .int .u8 0, .int .u8 0, .int .u8 0, .int .u8 0, .int .u8 0, .int .u8 0, .int .u8 0, .int .u8 0, .int .u8 0, .int .u8 0] : Array Value).size by kernel_rfl)
        have Hone0 := Lib.hid (show (#[.int .u8 0, .int .u8 0, .int .u8 0, .int .u8 0, .int .u8 0, .int .u8 0, .int .u8 0, .int .u8 0, .int .u8 0, .int .u8 0, .int .u8 0, .int .u8 0, .int .u8 0, .int .u8 0, .int .u8 0, .int .u8 0, .int .u8 0, .int .u8 0, .int .u8 0, .int .u8 0, .int .u8 0, .int .u8 0, .int .u8 0, .int .u8 0, .int .u8 0, .int .u8 0, .int .u8 0, .int .u8 0, .int .u8 0, .int .u8 0, .int .u8 0, .int .u8 0] : Array Value).all (·.oneCell') = true by simp [Value.oneCell'])
        clear hH7 hB7 HBu
        go_upto_region 10 with (first | (refine wpList_store_rowTo rfl 37 (.tmp 7) (.tmp 35) rfl rfl w7.heap.size #[.int .u8 0, .int .u8 0, .int .u8 0, .int .u8 0, .int .u8 0, .int .u8 0, .int .u8 0, .int .u8 0, .int .u8 0, .int .u8 0, .int .u8 0, .int .u8 0, .int .u8 0, .int .u8 0, .int .u8 0, .int .u8 0, .int .u8 0, .int .u8 0, .int .u8 0, .int .u8 0, .int .u8 0, .int .u8 0, .int .u8 0, .int .u8 0, .int .u8 0, .int .u8 0, .int .u8 0, .int .u8 0, .int .u8 0, .int .u8 0, .int .u8 0, .int .u8 0] rfl rfl 37 _ (heap_alloc_new w7 _) Hz0.out (by rfl) Hone0.out ?_))
        have hBx := below_setRow ((Below.refl w7.heap.size w7).alloc (Nat.le_refl _) (.cells #[.int .u8 0, .int .u8 0, .int .u8 0, .int .u8 0, .int .u8 0, .int .u8 0, .int .u8 0, .int .u8 0, .int .u8 0, .int .u8 0, .int .u8 0, .int .u8 0, .int .u8 0, .int .u8 0, .int .u8 0, .int .u8 0, .int .u8 0, .int .u8 0, .int .u8 0, .int .u8 0, .int .u8 0, .int .u8 0, .int .u8 0, .int .u8 0, .int .u8 0, .int .u8 0, .int .u8 0, .int .u8 0, .int .u8 0, .int .u8 0, .int .u8 0, .int .u8 0] 37)) (g := w7.heap.size) (Nat.le_refl _) #[.int .u8 0, .int .u8 0, .int .u8 0, .int .u8 0, .int .u8 0, .int .u8 0, .int .u8 0, .int .u8 0, .int .u8 0, .int .u8 0, .int .u8 0, .int .u8 0, .int .u8 0, .int .u8 0, .int .u8 0, .int .u8 0, .int .u8 0, .int .u8 0, .int .u8 0, .int .u8 0, .int .u8 0, .int .u8 0, .int .u8 0, .int .u8 0, .int .u8 0, .int .u8 0, .int .u8 0, .int .u8 0, .int .u8 0, .int .u8 0, .int .u8 0, .int .u8 0]
        generalize (w7.alloc (.cells #[.int .u8 0, .int .u8 0, .int .u8 0, .int .u8 0, .int .u8 0, .int .u8 0, .int .u8 0, .int .u8 0, .int .u8 0, .int .u8 0, .int .u8 0, .int .u8 0, .int .u8 0, .int .u8 0, .int .u8 0, .int .u8 0, .int .u8 0, .int .u8 0, .int .u8 0, .int .u8 0, .int .u8 0, .int .u8 0, .int .u8 0, .int .u8 0, .int .u8 0, .int .u8 0, .int .u8 0, .int .u8 0, .int .u8 0, .int .u8 0, .int .u8 0, .int .u8 0] 37)).setRow w7.heap.size #[.int .u8 0, .int .u8 0, .int .u8 0, .int .u8 0, .int .u8 0, .int .u8 0, .int .u8 0, .int .u8 0, .int .u8 0, .int .u8 0, .int .u8 0, .int .u8 0, .int .u8 0, .int .u8 0, .int .u8 0, .int .u8 0, .int .u8 0, .int .u8 0, .int .u8 0, .int .u8 0, .int .u8 0, .int .u8 0, .int .u8 0, .int .u8 0, .int .u8 0, .int .u8 0, .int .u8 0, .int .u8 0, .int .u8 0, .int .u8 0, .int .u8 0, .int .u8 0] = w8 at *
        have HH8 := Lib.hid (HH7.out.below0 hBx)
        have HB8 := Lib.hid (HB7.out.trans (hBx.mono HB7.out.size))
        have HWy := Lib.hid (why_any (.slice p4 len c4) a w8 (HR7.out.below hBx) (fun x hx => by have := Hlz.out x hx; omega) (by have := Hll.out; omega))
        obtain ⟨y, hy⟩ : ∃ y, y = whyF a := ⟨_, rfl⟩
        rw [← hy] at HWy hne ⊢
        have hyb : (y == 0) = false := beq_eq_false_iff_ne.2 hne
        have hyy : (y == y) = true := beq_self_eq_true _
        clear hBx HH7 HR7 hy HB7
        go_wp2_with fail
        refine HWy.out.mono ?_
        rintro e w9 ⟨rfl, hB9⟩
        have HSz := Lib.hid (show Calls Tryd.prog 39 #[.pointer (some ⟨b1, 0, none⟩)] w9 (fun e w' => e = .returned (.int .i64 ((0 + 0 + 0 : Nat) : Int)) ∧ Below w9.heap.size w9 w') from by
          obtain ⟨-, -, fb, ft, hS, -⟩ := HH8.out.below0 hB9
          exact size_any hS (by omega) (by omega) (by omega))
        have HB9 := Lib.hid (HB8.out.trans (hB9.mono HB8.out.size))
        clear hB9 HH8 HWy
        go_wp2_with fail
        refine HSz.out.mono ?_
        rintro e w10 ⟨rfl, hB10⟩
        have HB10 := Lib.hid (HB9.out.trans (hB10.mono HB9.out.size))
        clear hB10 HSz
        go_wp2_with fail
        go_ret
        exact ⟨rfl, HB10.out⟩
      · have HB7 := Lib.hid (HB6.out.trans (hK7.below HT1.out HB6.out.size))
        have hnew6 := gen_own_below Hnew.out HBz.out
        have hown7 := own_same hnew6 (fun q h1 h2 h3 => hK7.block q h2 (fun ht => by have := (own_lt Hnew.out h3).2; have := ht.1; omega))
        have HR7 := Lib.hid (own_rows2 Hlr.out Hll.out.symm hown7)
        obtain ⟨idv, hidv⟩ : ∃ y, y = tid (treeB (bldE 80 nilB l1)) := ⟨_, rfl⟩
        rw [← hidv]
        have Hil := Lib.hid (show idv.length = 32 by rw [hidv]; exact tid_len _)
        have Hz := Lib.hid (id_size Hil.out)
        have Hone := Lib.hid (id_one idv)
        have Hs32 := Lib.hid (show (bytV idv).toArray.size = 32 by rw [List.size_toArray, bytV_len, Hil.out])
        clear hK7 hnew6 hown7 hidv HBu
        go_upto_region 10 with (first | (refine wpList_store_rowTo rfl 37 (.tmp 7) (.tmp 35) rfl rfl w7.heap.size (bytV idv).toArray rfl rfl 37 _ (heap_alloc_new w7 _) Hz.out (by rw [Hs32.out]; rfl) Hone.out ?_))
        have hBx := below_setRow ((Below.refl w7.heap.size w7).alloc (Nat.le_refl _) (.cells #[.int .u8 0, .int .u8 0, .int .u8 0, .int .u8 0, .int .u8 0, .int .u8 0, .int .u8 0, .int .u8 0, .int .u8 0, .int .u8 0, .int .u8 0, .int .u8 0, .int .u8 0, .int .u8 0, .int .u8 0, .int .u8 0, .int .u8 0, .int .u8 0, .int .u8 0, .int .u8 0, .int .u8 0, .int .u8 0, .int .u8 0, .int .u8 0, .int .u8 0, .int .u8 0, .int .u8 0, .int .u8 0, .int .u8 0, .int .u8 0, .int .u8 0, .int .u8 0] 37)) (g := w7.heap.size) (Nat.le_refl _) (bytV idv).toArray
        generalize (w7.alloc (.cells #[.int .u8 0, .int .u8 0, .int .u8 0, .int .u8 0, .int .u8 0, .int .u8 0, .int .u8 0, .int .u8 0, .int .u8 0, .int .u8 0, .int .u8 0, .int .u8 0, .int .u8 0, .int .u8 0, .int .u8 0, .int .u8 0, .int .u8 0, .int .u8 0, .int .u8 0, .int .u8 0, .int .u8 0, .int .u8 0, .int .u8 0, .int .u8 0, .int .u8 0, .int .u8 0, .int .u8 0, .int .u8 0, .int .u8 0, .int .u8 0, .int .u8 0, .int .u8 0] 37)).setRow w7.heap.size (bytV idv).toArray = w8 at *
        have HB8 := Lib.hid (HB7.out.trans (hBx.mono HB7.out.size))
        have HWy := Lib.hid (why_any (.slice p4 len c4) a w8 (HR7.out.below hBx) (fun x hx => by have := Hlz.out x hx; omega) (by have := Hll.out; omega))
        rw [hw0] at HWy
        clear hBx HR7 hw0 HB7
        go_wp2_with fail
        refine HWy.out.mono ?_
        rintro e w9 ⟨rfl, hB9⟩
        have HB9 := Lib.hid (HB8.out.trans (hB9.mono HB8.out.size))
        clear hB9 HWy
        go_wp2_with fail
        go_ret
        exact ⟨rfl, HB9.out⟩
end Go.Proofs.YtdhaanaenklleaaDoor
