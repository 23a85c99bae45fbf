/- The document's device: put. -/
import Derived.Test.YtfmcemedaehcoaaXd
namespace Go.Proofs.Ytfmcemedaehcoaa
set_option linter.unusedVariables false
set_option linter.unusedSimpArgs false
open Go.ChangeShapes Go.WideShapes Go.ChangeAt Go.RowKit Go.ChangeMaps

theorem box_range {w : World} {B : Nat} {y : Ab} (h : w.heap[B]? = some (.cells (fV y).toArray 68 (0, 0))) : w.rangeAt B 0 (fV y) := fun j q hq => by rw [Nat.zero_add, block_cell h]; simpa using hq
/-- A file was put behind an own row. -/
theorem row_put {wa wq w3 : World} {v : Value} {M : List Ab} {cs : Array Value} (hB : Below wa.heap.size wa wq) (ho : wq.ownsRow wa.heap.size 68 3 v M.length (LF fV M)) (hg : (wq.alloc (.cells cs 68)).grownBy w3 v.ownBlock) :
    Below wa.heap.size wa w3 ∧ ∀ g, g < wq.heap.size → (v.ownBlock ≠ some g) → w3.heap[g]? = wq.heap[g]? := by
  have hal : Below wq.heap.size wq (wq.alloc (.cells cs 68)) := (Below.refl _ _).alloc (Nat.le_refl _) _
  refine ⟨(hB.alloc hB.size (.cells cs 68)).grown hg (by have := hB.size; simp; omega) (fun k hk => (own_lt3 ho hk).1), fun g hg1 hn => (hg.block g (by simp; omega) (fun e => hn e.symm)).trans (hal.block g hg1)⟩
set_option maxRecDepth 100000 in
set_option maxHeartbeats 2000000 in
theorem putR_any {S : Nat → Prop} {w0 : World} {b : Nat} {h : Hd} {A : List Ab} {w : World} (d : Rd S w0 b h A w) (hn : A.length ≤ 1048576) (f : Ab) :
    Calls Try.prog 54 #[.pointer (some ⟨b, 0, none⟩), .agg #[.string f.1, .string (mkB f.2.1), .int .i64 (f.2.2 : Nat)]] w fun e w' => e = .returned (.tuple #[]) ∧ Rd S w0 b h (putR A f) w' := by
  have hba : Below w.heap.size w (w.alloc (.cells #[.string f.1, .string (mkB f.2.1), .int .i64 (f.2.2 : Nat)] 68)) := (Below.refl _ _).alloc (Nat.le_refl _) _
  have hbx : (w.alloc (.cells #[.string f.1, .string (mkB f.2.1), .int .i64 (f.2.2 : Nat)] 68)).heap[w.heap.size]? = some (.cells (fV f).toArray 68 (0, 0)) := heap_alloc_new _ _
  have da := d.below hba
  obtain ⟨v, hb, hl, _⟩ := da.r
  obtain ⟨p, c, rfl⟩ := hl.shape
  have c0 := block_cell hb 0
  rw [show (rV h (.slice p A.length c))[0]? = some (.slice p A.length c) from rfl] at c0
  have HD := Lib.hid da
  have HL := Lib.hid hl
  have Hb := Lib.hid hb
  have Hbx := Lib.hid hbx
  have hbl := da.blk
  have hB0 := lt_of_block hbx
  have hbne : b ≠ w.heap.size := by have := d.blk; omega
  clear hl hb d da hba hbx
  go_enter Try.func54, Try.ntmps54
  go_wp2_with fail
  generalize w.alloc (.cells #[.string f.1, .string (mkB f.2.1), .int .i64 (f.2.2 : Nat)] 68) = wa at *
  go_loopg [4, 5, 13] A.length (fun gg vo vd vi wr => ∃ (i : Nat) (M : List Ab) (dn : Bool), vi = .int .i64 i ∧ vd = .bool dn ∧ i + gg = A.length ∧ M = outR f (A.take i) ∧ dn = dnB f.1 (A.take i) ∧ wr.ownsRow wa.heap.size 68 3 vo M.length (LF fV M) ∧ Below wa.heap.size wa wr)
  case atStart => exact ⟨0, [], false, rfl, rfl, by omega, by simp [outR, drpA, dnB], by simp [dnB, drpA], row_nil _ _, Below.refl _ _⟩
  case round =>
    obtain ⟨i, M, dn, rfl, rfl, hig, hM, hdn, ho, hB⟩ := hrel
    have hMl : M.length ≤ i + 1 := by rw [hM]; have := outR_len f (A.take i); rw [List.length_take] at this; omega
    by_cases hlt : i < A.length
    · have hltI : (i : Int) < (A.length : Nat) := by omega
      obtain ⟨g, o, c', he, hg, hc, hrg, hob⟩ := HL.out.file hlt
      injection he with he1 _ he2
      subst he1 he2
      have Hrg := Lib.hid (range_below hrg hB hg)
      have htk := List.take_succ_eq_append_getElem hlt
      have K1 := Lib.hid (fun e : A[i].1 = f.1 => show M = outR f (A.take (i + 1)) ∧ dn = dnB f.1 (A.take (i + 1)) from by rw [htk, outR_skip e, dnB_app, if_pos e]; exact ⟨hM, hdn⟩)
      have K2 := Lib.hid (fun (e : A[i].1 ≠ f.1) (hd : dn = true) => show M ++ [A[i]] = outR f (A.take (i + 1)) ∧ true = dnB f.1 (A.take (i + 1)) from by rw [htk, outR_add e (hdn ▸ hd), dnB_app, if_neg e, hM, ← hdn, hd]; exact ⟨rfl, rfl⟩)
      have K3 := Lib.hid (fun (e : A[i].1 ≠ f.1) (hd : dn = false) (hg : gtN A[i].1 f.1 = false) => show M ++ [A[i]] = outR f (A.take (i + 1)) ∧ false = dnB f.1 (A.take (i + 1)) from by rw [htk, outR_over e (hdn ▸ hd) hg, dnB_app, if_neg e, hM, ← hdn, hd, hg]; exact ⟨rfl, rfl⟩)
      have K4 := Lib.hid (fun (e : A[i].1 ≠ f.1) (hd : dn = false) (hg : gtN A[i].1 f.1 = true) => show M ++ [f] ++ [A[i]] = outR f (A.take (i + 1)) ∧ true = dnB f.1 (A.take (i + 1)) from by rw [htk, outR_now e (hdn ▸ hd) hg, dnB_app, if_neg e, hM, ← hdn, hd, hg]; exact ⟨rfl, rfl⟩)
      have HB := Lib.hid hB
      have Ho := Lib.hid ho
      have hbf := (hB.block w.heap.size hB0).trans Hbx.out
      have Hbf := Lib.hid hbf
      generalize A[i] = y at *
      clear hrg hB hM hdn ho htk hbf
      by_cases e : y.1 = f.1
      · have he := toList_eq e
        obtain ⟨k1, k2⟩ := K1.out e
        have K := Lib.hid (show M = outR f (A.take (i + 1)) ∧ dn = dnB f.1 (A.take (i + 1)) from ⟨k1, k2⟩)
        clear k1 k2 K1 K2 K3 K4 e
        go_wp2_with (first | (refine wpList_load_mid rfl 68 (.tmp 15) rfl g (o + i * 3) rfl (fV y) _ Hrg.out Try.underlying68 rfl (by rw [fV_len]; kernel_rfl) ?_) | (refine wpList_store_rowTo rfl 68 (.tmp 7) (.tmp 16) rfl rfl wr.heap.size (fV y).toArray rfl rfl 68 _ (heap_alloc_new wr _) (fV_size y) rfl (fV_all y) ?_; refine box_absL (boxL_made wr _ (fV y)) ?_; intro wx hbx; have HBx := Lib.hid hbx; have d0 : wx.cell? ⟨wr.heap.size, 0, none⟩ = some (.string y.1) := block_cell hbx.h 0; have e0 : wx.cell? ⟨w.heap.size, 0, none⟩ = some (.string f.1) := block_cell ((hbx.b.block w.heap.size (lt_of_block Hbf.out)).trans Hbf.out) 0; have HBo := Lib.hid (gen_own_below Ho.out HBx.out.b); have HBw := Lib.hid (HB.out.trans (HBx.out.b.mono HB.out.size)); have Hry := Lib.hid (box_range HBx.out.h); have Hrf := Lib.hid (box_range ((HBx.out.b.block w.heap.size (lt_of_block Hbf.out)).trans Hbf.out)); clear hbx))
        go_roundg (gk - 1)
        case measure => omega
        case rel => exact ⟨i + 1, M, dn, by go_num, rfl, by omega, K.out.1, K.out.2, HBo.out, HBw.out⟩
      · have he := toList_ne e
        have hless := gt_less he
        cases dn
        · cases hg : gtN y.1 f.1
          · rw [hg] at hless
            have K := Lib.hid (K3.out e rfl hg)
            clear K1 K2 K3 K4 e hg
            go_wp2_with (first | (refine wpList_load_mid rfl 68 (.tmp 15) rfl g (o + i * 3) rfl (fV y) _ Hrg.out Try.underlying68 rfl (by rw [fV_len]; kernel_rfl) ?_) | (refine wpList_store_rowTo rfl 68 (.tmp 7) (.tmp 16) rfl rfl wr.heap.size (fV y).toArray rfl rfl 68 _ (heap_alloc_new wr _) (fV_size y) rfl (fV_all y) ?_; refine box_absL (boxL_made wr _ (fV y)) ?_; intro wx hbx; have HBx := Lib.hid hbx; have d0 : wx.cell? ⟨wr.heap.size, 0, none⟩ = some (.string y.1) := block_cell hbx.h 0; have e0 : wx.cell? ⟨w.heap.size, 0, none⟩ = some (.string f.1) := block_cell ((hbx.b.block w.heap.size (lt_of_block Hbf.out)).trans Hbf.out) 0; have HBo := Lib.hid (gen_own_below Ho.out HBx.out.b); have HBw := Lib.hid (HB.out.trans (HBx.out.b.mono HB.out.size)); have Hry := Lib.hid (box_range HBx.out.h); have Hrf := Lib.hid (box_range ((HBx.out.b.block w.heap.size (lt_of_block Hbf.out)).trans Hbf.out)); clear hbx) | (refine wpList_load_mid rfl 68 (.tmp 7) rfl wr.heap.size 0 rfl [.string y.1, .string (mkB y.2.1), .int .i64 (y.2.2 : Nat)] _ Hry.out Try.underlying68 rfl fV_info ?_) | (at_builtin; refine wpList_append_gen eltF rfl (.tmp 35) (.tmp 37) rfl rfl wa.heap.size _ (M) rfl (gen_own_below HBo.out ((Below.refl _ _).alloc (Nat.le_refl _) _)) _ [y] (LAt.block (fV_len _) rfl (heap_alloc_new _ _)) rfl (by simp only [List.length_cons, List.length_nil, List.length_append]; omega) (by unfold maxLen; simp only [List.length_cons, List.length_nil, List.length_append]; omega) (by have := HBw.out.size; simp; omega) ?_; intro v4 w4 ho4 hg4))
            have HP := Lib.hid (row_put HBw.out HBo.out hg4)
            have Ho4 := Lib.hid ho4
            clear ho4 hg4
            go_wp2_with fail
            go_roundg (gk - 1)
            case measure => omega
            case rel => exact ⟨i + 1, M ++ [y], false, by go_num, rfl, by omega, K.out.1, K.out.2, Ho4.out, HP.out.1⟩
          · rw [hg] at hless
            have K := Lib.hid (K4.out e rfl hg)
            clear K1 K2 K3 K4 e hg
            go_wp2_with (first | (refine wpList_load_mid rfl 68 (.tmp 15) rfl g (o + i * 3) rfl (fV y) _ Hrg.out Try.underlying68 rfl (by rw [fV_len]; kernel_rfl) ?_) | (refine wpList_store_rowTo rfl 68 (.tmp 7) (.tmp 16) rfl rfl wr.heap.size (fV y).toArray rfl rfl 68 _ (heap_alloc_new wr _) (fV_size y) rfl (fV_all y) ?_; refine box_absL (boxL_made wr _ (fV y)) ?_; intro wx hbx; have HBx := Lib.hid hbx; have d0 : wx.cell? ⟨wr.heap.size, 0, none⟩ = some (.string y.1) := block_cell hbx.h 0; have e0 : wx.cell? ⟨w.heap.size, 0, none⟩ = some (.string f.1) := block_cell ((hbx.b.block w.heap.size (lt_of_block Hbf.out)).trans Hbf.out) 0; have HBo := Lib.hid (gen_own_below Ho.out HBx.out.b); have HBw := Lib.hid (HB.out.trans (HBx.out.b.mono HB.out.size)); have Hry := Lib.hid (box_range HBx.out.h); have Hrf := Lib.hid (box_range ((HBx.out.b.block w.heap.size (lt_of_block Hbf.out)).trans Hbf.out)); clear hbx) | (refine wpList_load_mid rfl 68 (.tmp 3) rfl w.heap.size 0 rfl [.string f.1, .string (mkB f.2.1), .int .i64 (f.2.2 : Nat)] _ Hrf.out Try.underlying68 rfl fV_info ?_) | (at_builtin; refine wpList_append_gen eltF rfl (.tmp 31) (.tmp 33) rfl rfl wa.heap.size _ (M) rfl (gen_own_below HBo.out ((Below.refl _ _).alloc (Nat.le_refl _) _)) _ [f] (LAt.block (fV_len _) rfl (heap_alloc_new _ _)) rfl (by simp only [List.length_cons, List.length_nil, List.length_append]; omega) (by unfold maxLen; simp only [List.length_cons, List.length_nil, List.length_append]; omega) (by have := HBw.out.size; simp; omega) ?_; intro v3 w3 ho3 hg3; have HP3 := Lib.hid (row_put HBw.out HBo.out hg3); have Ho3 := Lib.hid ho3; have Hry3 := Lib.hid (box_range ((HP3.out.2 wr.heap.size (lt_of_block HBx.out.h) (fun e => by have := (own_lt3 Ho.out e).2; omega)).trans HBx.out.h)); clear ho3 hg3) | (refine wpList_load_mid rfl 68 (.tmp 7) rfl wr.heap.size 0 rfl [.string y.1, .string (mkB y.2.1), .int .i64 (y.2.2 : Nat)] _ Hry3.out Try.underlying68 rfl fV_info ?_) | (at_builtin; refine wpList_append_gen eltF rfl (.tmp 35) (.tmp 37) rfl rfl wa.heap.size _ (M ++ [f]) rfl (gen_own_below Ho3.out ((Below.refl _ _).alloc (Nat.le_refl _) _)) _ [y] (LAt.block (fV_len _) rfl (heap_alloc_new _ _)) rfl (by simp only [List.length_cons, List.length_nil, List.length_append]; omega) (by unfold maxLen; simp only [List.length_cons, List.length_nil, List.length_append]; omega) (by have := HP3.out.1.size; simp; omega) ?_; intro v4 w4 ho4 hg4))
            have HP := Lib.hid (row_put HP3.out.1 Ho3.out hg4)
            have Ho4 := Lib.hid ho4
            clear ho4 hg4
            go_wp2_with fail
            go_roundg (gk - 1)
            case measure => omega
            case rel => exact ⟨i + 1, M ++ [f] ++ [y], true, by go_num, rfl, by omega, K.out.1, K.out.2, Ho4.out, HP.out.1⟩
        · have K := Lib.hid (K2.out e rfl)
          clear K1 K2 K3 K4 e hless
          go_wp2_with (first | (refine wpList_load_mid rfl 68 (.tmp 15) rfl g (o + i * 3) rfl (fV y) _ Hrg.out Try.underlying68 rfl (by rw [fV_len]; kernel_rfl) ?_) | (refine wpList_store_rowTo rfl 68 (.tmp 7) (.tmp 16) rfl rfl wr.heap.size (fV y).toArray rfl rfl 68 _ (heap_alloc_new wr _) (fV_size y) rfl (fV_all y) ?_; refine box_absL (boxL_made wr _ (fV y)) ?_; intro wx hbx; have HBx := Lib.hid hbx; have d0 : wx.cell? ⟨wr.heap.size, 0, none⟩ = some (.string y.1) := block_cell hbx.h 0; have e0 : wx.cell? ⟨w.heap.size, 0, none⟩ = some (.string f.1) := block_cell ((hbx.b.block w.heap.size (lt_of_block Hbf.out)).trans Hbf.out) 0; have HBo := Lib.hid (gen_own_below Ho.out HBx.out.b); have HBw := Lib.hid (HB.out.trans (HBx.out.b.mono HB.out.size)); have Hry := Lib.hid (box_range HBx.out.h); have Hrf := Lib.hid (box_range ((HBx.out.b.block w.heap.size (lt_of_block Hbf.out)).trans Hbf.out)); clear hbx) | (refine wpList_load_mid rfl 68 (.tmp 7) rfl wr.heap.size 0 rfl [.string y.1, .string (mkB y.2.1), .int .i64 (y.2.2 : Nat)] _ Hry.out Try.underlying68 rfl fV_info ?_) | (at_builtin; refine wpList_append_gen eltF rfl (.tmp 35) (.tmp 37) rfl rfl wa.heap.size _ (M) rfl (gen_own_below HBo.out ((Below.refl _ _).alloc (Nat.le_refl _) _)) _ [y] (LAt.block (fV_len _) rfl (heap_alloc_new _ _)) rfl (by simp only [List.length_cons, List.length_nil, List.length_append]; omega) (by unfold maxLen; simp only [List.length_cons, List.length_nil, List.length_append]; omega) (by have := HBw.out.size; simp; omega) ?_; intro v4 w4 ho4 hg4))
          have HP := Lib.hid (row_put HBw.out HBo.out hg4)
          have Ho4 := Lib.hid ho4
          clear ho4 hg4
          go_wp2_with fail
          go_roundg (gk - 1)
          case measure => omega
          case rel => exact ⟨i + 1, M ++ [y], true, by go_num, rfl, by omega, K.out.1, K.out.2, Ho4.out, HP.out.1⟩
    · have hltI : ¬ (i : Int) < (A.length : Nat) := by omega
      have hE : (if dn = true then M else M ++ [f]) = putR A f := by rw [outR_end, hdn, hM, List.take_of_length_le (by omega)]
      have hbr := (hB.block b hbl).trans Hb.out
      have Hrf := Lib.hid (box_range ((hB.block w.heap.size hB0).trans Hbx.out))
      cases dn
      · rw [if_neg (by decide)] at hE
        have HB := Lib.hid hB
        have Ho := Lib.hid ho
        have Hbr := Lib.hid hbr
        have HE := Lib.hid hE
        have hblr : b < wr.heap.size := lt_of_block hbr
        clear hM hdn hB ho hbr hE
        go_wp2_with (first | (refine wpList_load_mid rfl 68 (.tmp 3) rfl w.heap.size 0 rfl [.string f.1, .string (mkB f.2.1), .int .i64 (f.2.2 : Nat)] _ Hrf.out Try.underlying68 rfl fV_info ?_) | (at_builtin; refine wpList_append_gen eltF rfl (.tmp 42) (.tmp 44) rfl rfl wa.heap.size _ (M) rfl (gen_own_below Ho.out ((Below.refl _ _).alloc (Nat.le_refl _) _)) _ [f] (LAt.block (fV_len _) rfl (heap_alloc_new _ _)) rfl (by simp only [List.length_cons, List.length_nil, List.length_append]; omega) (by unfold maxLen; simp only [List.length_cons, List.length_nil, List.length_append]; omega) (by have := HB.out.size; simp; omega) ?_; intro v3 w3 ho3 hg3; have hP3 := row_put HB.out Ho.out hg3; obtain ⟨pv, cv, rfl⟩ := (fok_own ho3).shape; have hb3 := (hP3.2 b hblr (fun e => by have := (own_lt3 Ho.out e).1; omega)).trans Hbr.out; have f0 := block_free hb3 0; have c0r : w3.cell? ⟨b, 0, none⟩ = some (.slice p A.length c) := block_cell hb3 0; have HO := Lib.hid (Rd.castA HE.out <| (HD.out.below hP3.1).row _ (fok_own ho3) (fun g hg => by have h1 := own_lt3 ho3 hg; exact ⟨by omega, gr_new HD.out.k.size h1.1 h1.2⟩)); clear hP3 hb3 ho3 hg3))
        exact bodyPost_end (v := .tuple #[]) (by simp [results, Try.results54]) rfl ⟨rfl, by have h := HO.out; rw [show (M ++ [f]).length = M.length + 1 from by simp] at h; exact h⟩
      · rw [if_pos rfl] at hE
        obtain ⟨pv, cv, rfl⟩ := (fok_own ho).shape
        have f0 := block_free hbr 0
        have c0r : wr.cell? ⟨b, 0, none⟩ = some (.slice p A.length c) := block_cell hbr 0
        have HO := Lib.hid (Rd.castA hE <| (HD.out.below hB).row _ (fok_own ho) (fun g hg => by have h1 := own_lt3 ho hg; exact ⟨by omega, gr_new HD.out.k.size h1.1 h1.2⟩))
        clear hM hdn hB ho hbr hE
        go_wp2_with fail
        exact bodyPost_end (v := .tuple #[]) (by simp [results, Try.results54]) rfl ⟨rfl, HO.out⟩
end Go.Proofs.Ytfmcemedaehcoaa
