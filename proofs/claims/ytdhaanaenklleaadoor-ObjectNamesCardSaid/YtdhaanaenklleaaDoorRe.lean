/- Walks: the statement ObjectNames. -/
import Derived.Test.YtdhaanaenklleaaDoorRd
namespace Go.Proofs.YtdhaanaenklleaaDoor
set_option linter.unusedVariables false
set_option linter.unusedSimpArgs false
open Go.ChangeShapes Go.WideShapes Go.ChangeAt Go.RowKit

set_option maxRecDepth 100000 in
set_option maxHeartbeats 40000000 in
theorem names7_eq (a : ByteArray) (d0 d1 d2 : List UInt8) (w : World) (ha : a.size + a.size ≤ 4096) (hne : (a.toList == a.toList) = true) (Hl_d0 : Hid (d0.length = 32)) (Hl_d1 : Hid (d1.length = 32)) (Hl_d2 : Hid (d2.length = 32)) (HA : Hid (Calls Tryd.prog 13 #[] w fun e w' => e = .returned (.bool true) ∧ Below w.heap.size w w'))
    (DS0 : Hid (Dig w 33 #[.string ⟨#[98, 108, 111, 98]⟩, .string a] d0)) (DS1 : Hid (Dig w 33 #[.string ⟨#[116, 114, 101, 101]⟩, .string a] d1)) (DS2 : Hid (Dig w 33 #[.string ⟨#[99, 111, 109, 109, 105, 116]⟩, .string a] d2)) (DS3 : Hid (Dig w 33 #[.string ⟨#[98, 108, 111, 98]⟩, .string a] d0)) (DS4 : Hid (Dig w 33 #[.string ⟨#[116, 114, 101, 101]⟩, .string a] d1)) (DS5 : Hid (Dig w 33 #[.string ⟨#[99, 111, 109, 109, 105, 116]⟩, .string a] d2)) 
    (DB30 : Hid (Dig w 30 #[.string a] d0)) (DB31 : Hid (Dig w 31 #[.string a] d1)) (DB32 : Hid (Dig w 32 #[.string a] d2)) : Calls Tryd.prog 6 #[.string a, .string a] w (LawEnd w) := by
  have hsI : ¬ (4096 : Int) < (a.size : Int) + (a.size : Int) := by omega
  have hwr : IntKind.i64.wrap ((a.size : Int) + (a.size : Int)) = (a.size : Int) + (a.size : Int) := wrap_in (by omega) (by omega)
  go_enter Tryd.func6, Tryd.ntmps6
  go_wp2_with fail
  refine HA.out.mono ?_
  rintro e w0 ⟨rfl, hB0⟩
  go_wp2_with fail
  refine (DB30.out _ hB0).mono ?_
  rintro e w1 ⟨rfl, hB2⟩
  replace hB0 := hB0.trans (hB2.mono hB0.size)
  clear hB2
  go_wp2_with fail
  refine (DB31.out _ hB0).mono ?_
  rintro e w2 ⟨rfl, hB2⟩
  replace hB0 := hB0.trans (hB2.mono hB0.size)
  clear hB2
  go_wp2_with fail
  refine (DB32.out _ hB0).mono ?_
  rintro e w3 ⟨rfl, hB2⟩
  replace hB0 := hB0.trans (hB2.mono hB0.size)
  clear hB2
  have HW3 := Lib.hid hB0
  clear hB0
  have Hs_d0 := Lib.hid (show (bytV d0).toArray.size = 32 by rw [List.size_toArray, bytV_len, Hl_d0.out])
  have Hs_d1 := Lib.hid (show (bytV d1).toArray.size = 32 by rw [List.size_toArray, bytV_len, Hl_d1.out])
  have Hs_d2 := Lib.hid (show (bytV d2).toArray.size = 32 by rw [List.size_toArray, bytV_len, Hl_d2.out])
  go_wp2_with (first | (refine wpList_store_rowTo rfl 37 (.tmp 5) (.tmp 25) rfl rfl w3.heap.size (bytV d0).toArray rfl rfl 37 _ (al3_0 w3 _ _ _) (id_size Hl_d0.out) (by rw [Hs_d0.out]; rfl) (id_one _) ?_) | (refine wpList_store_rowTo rfl 37 (.tmp 6) (.tmp 27) rfl rfl (w3.heap.size + 1) (bytV d1).toArray rfl rfl 37 _ ((setRow_other _ _ _ _ (by omega)).trans (al3_1 w3 _ _ _)) (id_size Hl_d1.out) (by rw [Hs_d1.out]; rfl) (id_one _) ?_) | (refine wpList_store_rowTo rfl 37 (.tmp 7) (.tmp 29) rfl rfl (w3.heap.size + 2) (bytV d2).toArray rfl rfl 37 _ ((setRow_other _ _ _ _ (by omega)).trans ((setRow_other _ _ _ _ (by omega)).trans (al3_2 w3 _ _ _))) (id_size Hl_d2.out) (by rw [Hs_d2.out]; rfl) (id_one _) ?_; refine bs3_abs (Bs3.made w3 _ (bytV d0).toArray (bytV d1).toArray (bytV d2).toArray) ?_; intro w4' hb4; have HX3 := Lib.hid hb4; clear hb4))
  have HW5 := Lib.hid (HW3.out.trans (HX3.out.b.mono HW3.out.size))
  have F0 := Lib.hid (DS0.out.cls HW5.out)
  have F1 := Lib.hid (DS1.out.cls HW5.out)
  have F2 := Lib.hid (DS2.out.cls HW5.out)
  have LX0 := Lib.hid (fun w1 (h1 : Below w4'.heap.size w4' w1) => load_r37 (d := d0) (HX3.out.below h1).a1 Hl_d0.out)
  have LX1 := Lib.hid (fun w1 (h1 : Below w4'.heap.size w4' w1) => load_r37 (d := d1) (HX3.out.below h1).a2 Hl_d1.out)
  have LX2 := Lib.hid (fun w1 (h1 : Below w4'.heap.size w4' w1) => load_r37 (d := d2) (HX3.out.below h1).a3 Hl_d2.out)
  have q0 := same37 d0 Hl_d0.out
  have q1 := same37 d1 Hl_d1.out
  have q2 := same37 d2 Hl_d2.out
  refine wp_region_class (Below w4'.heap.size w4') (by kernel_rfl) (by kernel_rfl) (Below.refl _ _).drew ?_
  repeat (go_big_quiet_step (first | (intro hh; with_reducible exact F0.out _ hh) | (intro hh; with_reducible exact F1.out _ hh) | (intro hh; with_reducible exact F2.out _ hh) | (intro _; rfl)))
  refine wpQuiet_load_at rfl 37 (.tmp 5) rfl ⟨w3.heap.size, 0, none⟩ rfl (.agg (bytV d0).toArray) LX0.out ?_
  simp only [Act.put, List.setIfInBounds_toArray, List.set_cons_succ, List.set_cons_zero]
  repeat (go_big_quiet_step (first | (intro hh; with_reducible exact F0.out _ hh) | (intro hh; with_reducible exact F1.out _ hh) | (intro hh; with_reducible exact F2.out _ hh) | (intro _; rfl)))
  refine wpQuiet_load_at (by simp [Region.wanted, yielded, Act.put]) 37 (.tmp 6) rfl ⟨w3.heap.size + 1, 0, none⟩ rfl (.agg (bytV d1).toArray) LX1.out ?_
  simp only [Act.put, List.setIfInBounds_toArray, List.set_cons_succ, List.set_cons_zero]
  repeat (go_big_quiet_step (first | (intro hh; with_reducible exact F0.out _ hh) | (intro hh; with_reducible exact F1.out _ hh) | (intro hh; with_reducible exact F2.out _ hh) | (intro _; rfl)))
  refine wpQuiet_load_at (by simp [Region.wanted, yielded, Act.put]) 37 (.tmp 7) rfl ⟨w3.heap.size + 2, 0, none⟩ rfl (.agg (bytV d2).toArray) LX2.out ?_
  simp only [Act.put, List.setIfInBounds_toArray, List.set_cons_succ, List.set_cons_zero]
  repeat (go_big_quiet_step (first | (intro hh; with_reducible exact F0.out _ hh) | (intro hh; with_reducible exact F1.out _ hh) | (intro hh; with_reducible exact F2.out _ hh) | (intro _; rfl)))
  refine wpQuiet_nil ?_
  intro w4 hBq
  have HX4 := Lib.hid (HX3.out.below hBq)
  have HW4 := Lib.hid (HW5.out.trans (hBq.mono HW5.out.size))
  have HL := Lib.hid (show LoG 37 32 bytV w4 [] (.slice none 0 0) w4 from ⟨⟨rfl, .inl ⟨rfl, rfl⟩⟩, Below.refl _ _⟩)
  clear hBq q0 q1 q2 F0 F1 F2 LX0 LX1 LX2 HX3 HW3 HW5
  go_wp2_with fail
  refine wp_loop_rounds 3 ?_
  rw [rounds_succ]
  go_wp2_with (first | (refine wpList_index (ix2_0 _ _) rfl rfl rfl rfl ?_) | (refine wpList_index (ix2_1 _ _) rfl rfl rfl rfl ?_) | (refine wpList_index (ix3_0 _ _ _) rfl rfl rfl rfl ?_) | (refine wpList_index (ix3_1 _ _ _) rfl rfl rfl rfl ?_) | (refine wpList_index (ix3_2 _ _ _) rfl rfl rfl rfl ?_))
  refine wp_loop_rounds 4 ?_
  rw [rounds_succ]
  go_wp2_with (first | (refine wpList_index (ix2_0 _ _) rfl rfl rfl rfl ?_) | (refine wpList_index (ix2_1 _ _) rfl rfl rfl rfl ?_) | (refine wpList_index (ix3_0 _ _ _) rfl rfl rfl rfl ?_) | (refine wpList_index (ix3_1 _ _ _) rfl rfl rfl rfl ?_) | (refine wpList_index (ix3_2 _ _ _) rfl rfl rfl rfl ?_))
  refine (DS0.out _ (HW4.out.trans (HL.out.bl.mono HW4.out.size))).mono ?_
  rintro e S0 ⟨rfl, hB2⟩
  replace HL := Lib.hid (HL.out.below hB2)
  clear hB2
  go_wp2_with (first | (refine wpList_store_rowTo rfl 37 (.tmp 13) (.tmp 58) rfl rfl S0.heap.size (bytV d0).toArray rfl rfl 37 _ (heap_alloc_new S0 _) (id_size Hl_d0.out) (by rw [Hs_d0.out]; rfl) (id_one _) ?_; refine box_absL (boxL_made S0 _ 37 (bytV d0)) ?_; intro wT hbx; have HB := Lib.hid hbx; replace HL := Lib.hid (HL.out.below hbx.b); clear hbx))
  go_loopg [61] 0 (fun g iv wr => ∃ i : Nat, i + g = 0 ∧ iv = .int .i64 i ∧ Below wT.heap.size wT wr ∧ ∀ k, k < i → ∀ h : k < ([] : List (List UInt8)).length, True)
  case atStart => exact ⟨0, by omega, rfl, Below.refl _ _, fun k hk => absurd hk (by omega)⟩
  case round =>
    obtain ⟨i, hig, rfl, hBr, hno⟩ := hrel
    have HLr := Lib.hid (HL.out.below hBr)
    have HBr := Lib.hid (HB.out.below hBr)
    have HBk := Lib.hid hBr
    have HN := Lib.hid hno
    clear hBr hno
    by_cases hlt : i < 0
    · exact absurd hlt (by omega)
    · obtain rfl : i = 0 := by omega
      have hltI : ¬ ((0 : Nat) : Int) < 0 := by decide
      have N0 := Lib.hid HN.out
      have hbl : (bytV d0).length = 32 := by rw [bytV_len]; exact Hl_d0.out
      go_wp2_with (first | (refine wpList_load_mid rfl 37 (.tmp 13) rfl S0.heap.size 0 rfl (bytV d0) _ (fun j y hj => by rw [Nat.zero_add]; exact HBr.out.r j y hj) Tryd.underlying37 rfl (by rw [bytV_len, Hl_d0.out]; kernel_rfl) ?_) | (at_builtin; go_must (refine wpList_append_gen eltI rfl (.tmp 83) (.tmp 85) rfl rfl w4.heap.size _ [] rfl (HLr.out.below ((Below.refl _ _).alloc (Nat.le_refl _) _)).ow _ [d0] (LAt.block (by rw [bytV_len]; exact Hl_d0.out) (fold_all (bytV d0) #[.int .u8 0, .int .u8 0, .int .u8 0, .int .u8 0, .int .u8 0, .int .u8 0, .int .u8 0, .int .u8 0, .int .u8 0, .int .u8 0, .int .u8 0, .int .u8 0, .int .u8 0, .int .u8 0, .int .u8 0, .int .u8 0, .int .u8 0, .int .u8 0, .int .u8 0, .int .u8 0, .int .u8 0, .int .u8 0, .int .u8 0, .int .u8 0, .int .u8 0, .int .u8 0, .int .u8 0, .int .u8 0, .int .u8 0, .int .u8 0, .int .u8 0, .int .u8 0] (by rw [bytV_len, Hl_d0.out]; rfl)) (heap_alloc_new wr _)) rfl (by simp only [List.length_cons, List.length_nil]; omega) (by unfold maxLen; simp only [List.length_cons, List.length_nil]; omega) (by have := HLr.out.bl.size; simp; omega) ?_); intro va w5 ho5 hg5; have HLn := Lib.hid ((HLr.out.below ((Below.refl _ _).alloc (Nat.le_refl _) _)).put ho5 hg5); clear ho5 hg5))
      replace HL := HLn
      clear HLr HBr HBk HB HN HLn hbl
      obtain ⟨pp, pc1, rfl⟩ := own_slice' (n := 1) HL.out.ow
      have HLen := Lib.hid (lens_at (L := [d0]) (by
        intro y hy
        simp only [List.mem_cons, List.not_mem_nil, or_false] at hy
        rw [hy]; exact Hl_d0.out))
      obtain ⟨g1, o1, rfl, hcap1, hmax1⟩ := row_at (n := 1) rfl HLen.out HL.out.ow (by decide)
      rw [rounds_succ]
      go_wp2_with (first | (refine wpList_index (ix2_0 _ _) rfl rfl rfl rfl ?_) | (refine wpList_index (ix2_1 _ _) rfl rfl rfl rfl ?_) | (refine wpList_index (ix3_0 _ _ _) rfl rfl rfl rfl ?_) | (refine wpList_index (ix3_1 _ _ _) rfl rfl rfl rfl ?_) | (refine wpList_index (ix3_2 _ _ _) rfl rfl rfl rfl ?_))
      refine (DS1.out _ (HW4.out.trans (HL.out.bl.mono HW4.out.size))).mono ?_
      rintro e S1 ⟨rfl, hB2⟩
      replace HL := Lib.hid (HL.out.below hB2)
      clear hB2
      go_wp2_with (first | (refine wpList_store_rowTo rfl 37 (.tmp 13) (.tmp 58) rfl rfl S1.heap.size (bytV d1).toArray rfl rfl 37 _ (heap_alloc_new S1 _) (id_size Hl_d1.out) (by rw [Hs_d1.out]; rfl) (id_one _) ?_; refine box_absL (boxL_made S1 _ 37 (bytV d1)) ?_; intro wT hbx; have HB := Lib.hid hbx; replace HL := Lib.hid (HL.out.below hbx.b); clear hbx))
      go_loopg [61] 1 (fun g iv wr => ∃ i : Nat, i + g = 1 ∧ iv = .int .i64 i ∧ Below wT.heap.size wT wr ∧ ∀ k, k < i → ∀ h : k < ([d0] : List (List UInt8)).length, [d0][k] = d1 → k % 3 = 1)
      case atStart => exact ⟨0, by omega, rfl, Below.refl _ _, fun k hk => absurd hk (by omega)⟩
      case round =>
        obtain ⟨i, hig, rfl, hBr, hno⟩ := hrel
        have HLr := Lib.hid (HL.out.below hBr)
        have HBr := Lib.hid (HB.out.below hBr)
        have HBk := Lib.hid hBr
        have HN := Lib.hid hno
        clear hBr hno
        by_cases hlt : i < 1
        · have hltI : (i : Int) < 1 := by omega
          have hiL : i < ([d0] : List (List UInt8)).length := by simpa using hlt
          have hdl := HLen.out i hiL
          obtain ⟨hgl, hrg0⟩ := row_in (n := 1) rfl HLen.out HLr.out.ow (by decide)
          have hrg := hrg0 i hiL
          obtain ⟨di, hdi⟩ : ∃ di, di = ([d0] : List (List UInt8))[i] := ⟨_, rfl⟩
          rw [← hdi] at hdl hrg
          have Hdi := Lib.hid hdi
          have Hdl := Lib.hid hdl
          have Hrg := Lib.hid hrg
          have Hds := Lib.hid (show (bytV di).toArray.size = 32 by rw [List.size_toArray, bytV_len, hdl])
          have heq0 := fun w1 => eq_id (a := di) (b := d1) hdl Hl_d1.out w1
          clear hdi hdl hrg hrg0
          by_cases he : di = d1
          · have heq : ∀ w1, (Op.equalIn 10000 37 (.agg (bytV di).toArray) (.agg (bytV d1).toArray)).run Tryd.prog w1 = .ok true w1 := fun w1 => by rw [heq0 w1, decide_eq_true he]
            clear heq0 he
            rcases (by omega : i = 0) with e
            · subst e
              go_wp2_with (first | (refine wpList_load_mid rfl 37 (.tmp 64) rfl g1 (o1 + 0 * 32) rfl (bytV di) _ Hrg.out Tryd.underlying37 rfl (by rw [bytV_len, Hdl.out]; kernel_rfl) ?_) | (refine wpList_store_rowTo rfl 37 (.tmp 15) (.tmp 65) rfl rfl wr.heap.size (bytV di).toArray rfl rfl 37 _ (heap_alloc_new wr _) (id_size Hdl.out) (by rw [Hds.out]; rfl) (id_one _) ?_; refine box_absL (boxL_made wr _ 37 (bytV di)) ?_; intro wu hbx; have HBu := Lib.hid hbx; have HBv := Lib.hid (HBr.out.below hbx.b); have HLu0 := Lib.hid (HBk.out.trans (hbx.b.mono HBk.out.size)); clear hbx) | (refine wpList_load_mid rfl 37 (.tmp 15) rfl wr.heap.size 0 rfl (bytV di) _ (fun j y hj => by rw [Nat.zero_add]; exact HBu.out.r j y hj) Tryd.underlying37 rfl (by rw [bytV_len, Hdl.out]; kernel_rfl) ?_) | (refine wpList_load_mid rfl 37 (.tmp 13) rfl S1.heap.size 0 rfl (bytV d1) _ (fun j y hj => by rw [Nat.zero_add]; exact HBv.out.r j y hj) Tryd.underlying37 rfl (by rw [bytV_len, Hl_d1.out]; kernel_rfl) ?_))
              go_ret
              exact ⟨rfl, HW4.out.trans ((HLr.out.bl.trans (HBu.out.b.mono HLr.out.bl.size)).mono HW4.out.size)⟩
          · have heq : ∀ w1, (Op.equalIn 10000 37 (.agg (bytV di).toArray) (.agg (bytV d1).toArray)).run Tryd.prog w1 = .ok false w1 := fun w1 => by rw [heq0 w1, decide_eq_false he]
            have Hne := Lib.hid he
            clear heq0 he
            go_wp2_with (first | (refine wpList_load_mid rfl 37 (.tmp 64) rfl g1 (o1 + i * 32) rfl (bytV di) _ Hrg.out Tryd.underlying37 rfl (by rw [bytV_len, Hdl.out]; kernel_rfl) ?_) | (refine wpList_store_rowTo rfl 37 (.tmp 15) (.tmp 65) rfl rfl wr.heap.size (bytV di).toArray rfl rfl 37 _ (heap_alloc_new wr _) (id_size Hdl.out) (by rw [Hds.out]; rfl) (id_one _) ?_; refine box_absL (boxL_made wr _ 37 (bytV di)) ?_; intro wu hbx; have HBu := Lib.hid hbx; have HBv := Lib.hid (HBr.out.below hbx.b); have HLu0 := Lib.hid (HBk.out.trans (hbx.b.mono HBk.out.size)); clear hbx) | (refine wpList_load_mid rfl 37 (.tmp 15) rfl wr.heap.size 0 rfl (bytV di) _ (fun j y hj => by rw [Nat.zero_add]; exact HBu.out.r j y hj) Tryd.underlying37 rfl (by rw [bytV_len, Hdl.out]; kernel_rfl) ?_) | (refine wpList_load_mid rfl 37 (.tmp 13) rfl S1.heap.size 0 rfl (bytV d1) _ (fun j y hj => by rw [Nat.zero_add]; exact HBv.out.r j y hj) Tryd.underlying37 rfl (by rw [bytV_len, Hl_d1.out]; kernel_rfl) ?_))
            go_roundg (gk - 1)
            case measure => omega
            case rel => exact ⟨i + 1, by omega, by go_num, HLu0.out, fun k hk h => by
              rcases (by omega : k < i ∨ k = i) with hk2 | rfl
              · exact HN.out k hk2 h
              · intro e2; exact absurd (Hdi.out.trans e2) Hne.out⟩
        · obtain rfl : i = 1 := by omega
          have hltI : ¬ ((1 : Nat) : Int) < 1 := by decide
          have N1 := Lib.hid HN.out
          have hbl : (bytV d1).length = 32 := by rw [bytV_len]; exact Hl_d1.out
          go_wp2_with (first | (refine wpList_load_mid rfl 37 (.tmp 13) rfl S1.heap.size 0 rfl (bytV d1) _ (fun j y hj => by rw [Nat.zero_add]; exact HBr.out.r j y hj) Tryd.underlying37 rfl (by rw [bytV_len, Hl_d1.out]; kernel_rfl) ?_) | (at_builtin; go_must (refine wpList_append_gen eltI rfl (.tmp 83) (.tmp 85) rfl rfl w4.heap.size _ [d0] rfl (HLr.out.below ((Below.refl _ _).alloc (Nat.le_refl _) _)).ow _ [d1] (LAt.block (by rw [bytV_len]; exact Hl_d1.out) (fold_all (bytV d1) #[.int .u8 0, .int .u8 0, .int .u8 0, .int .u8 0, .int .u8 0, .int .u8 0, .int .u8 0, .int .u8 0, .int .u8 0, .int .u8 0, .int .u8 0, .int .u8 0, .int .u8 0, .int .u8 0, .int .u8 0, .int .u8 0, .int .u8 0, .int .u8 0, .int .u8 0, .int .u8 0, .int .u8 0, .int .u8 0, .int .u8 0, .int .u8 0, .int .u8 0, .int .u8 0, .int .u8 0, .int .u8 0, .int .u8 0, .int .u8 0, .int .u8 0, .int .u8 0] (by rw [bytV_len, Hl_d1.out]; rfl)) (heap_alloc_new wr _)) rfl (by simp only [List.length_cons, List.length_nil]; omega) (by unfold maxLen; simp only [List.length_cons, List.length_nil]; omega) (by have := HLr.out.bl.size; simp; omega) ?_); intro va w5 ho5 hg5; have HLn := Lib.hid ((HLr.out.below ((Below.refl _ _).alloc (Nat.le_refl _) _)).put ho5 hg5); clear ho5 hg5))
          replace HL := HLn
          clear HLr HBr HBk HB HN HLn hbl
          obtain ⟨pp, pc2, rfl⟩ := own_slice' (n := 2) HL.out.ow
          have HLen := Lib.hid (lens_at (L := [d0, d1]) (by
            intro y hy
            simp only [List.mem_cons, List.not_mem_nil, or_false] at hy
            rcases hy with h | h
            · rw [h]; exact Hl_d0.out
            · rw [h]; exact Hl_d1.out))
          obtain ⟨g2, o2, rfl, hcap2, hmax2⟩ := row_at (n := 2) rfl HLen.out HL.out.ow (by decide)
          rw [rounds_succ]
          go_wp2_with (first | (refine wpList_index (ix2_0 _ _) rfl rfl rfl rfl ?_) | (refine wpList_index (ix2_1 _ _) rfl rfl rfl rfl ?_) | (refine wpList_index (ix3_0 _ _ _) rfl rfl rfl rfl ?_) | (refine wpList_index (ix3_1 _ _ _) rfl rfl rfl rfl ?_) | (refine wpList_index (ix3_2 _ _ _) rfl rfl rfl rfl ?_))
          refine (DS2.out _ (HW4.out.trans (HL.out.bl.mono HW4.out.size))).mono ?_
          rintro e S2 ⟨rfl, hB2⟩
          replace HL := Lib.hid (HL.out.below hB2)
          clear hB2
          go_wp2_with (first | (refine wpList_store_rowTo rfl 37 (.tmp 13) (.tmp 58) rfl rfl S2.heap.size (bytV d2).toArray rfl rfl 37 _ (heap_alloc_new S2 _) (id_size Hl_d2.out) (by rw [Hs_d2.out]; rfl) (id_one _) ?_; refine box_absL (boxL_made S2 _ 37 (bytV d2)) ?_; intro wT hbx; have HB := Lib.hid hbx; replace HL := Lib.hid (HL.out.below hbx.b); clear hbx))
          go_loopg [61] 2 (fun g iv wr => ∃ i : Nat, i + g = 2 ∧ iv = .int .i64 i ∧ Below wT.heap.size wT wr ∧ ∀ k, k < i → ∀ h : k < ([d0, d1] : List (List UInt8)).length, [d0, d1][k] = d2 → k % 3 = 2)
          case atStart => exact ⟨0, by omega, rfl, Below.refl _ _, fun k hk => absurd hk (by omega)⟩
          case round =>
            obtain ⟨i, hig, rfl, hBr, hno⟩ := hrel
            have HLr := Lib.hid (HL.out.below hBr)
            have HBr := Lib.hid (HB.out.below hBr)
            have HBk := Lib.hid hBr
            have HN := Lib.hid hno
            clear hBr hno
            by_cases hlt : i < 2
            · have hltI : (i : Int) < 2 := by omega
              have hiL : i < ([d0, d1] : List (List UInt8)).length := by simpa using hlt
              have hdl := HLen.out i hiL
              obtain ⟨hgl, hrg0⟩ := row_in (n := 2) rfl HLen.out HLr.out.ow (by decide)
              have hrg := hrg0 i hiL
              obtain ⟨di, hdi⟩ : ∃ di, di = ([d0, d1] : List (List UInt8))[i] := ⟨_, rfl⟩
              rw [← hdi] at hdl hrg
              have Hdi := Lib.hid hdi
              have Hdl := Lib.hid hdl
              have Hrg := Lib.hid hrg
              have Hds := Lib.hid (show (bytV di).toArray.size = 32 by rw [List.size_toArray, bytV_len, hdl])
              have heq0 := fun w1 => eq_id (a := di) (b := d2) hdl Hl_d2.out w1
              clear hdi hdl hrg hrg0
              by_cases he : di = d2
              · have heq : ∀ w1, (Op.equalIn 10000 37 (.agg (bytV di).toArray) (.agg (bytV d2).toArray)).run Tryd.prog w1 = .ok true w1 := fun w1 => by rw [heq0 w1, decide_eq_true he]
                clear heq0 he
                rcases (by omega : i = 0 ∨ i = 1) with e | e
                · subst e
                  go_wp2_with (first | (refine wpList_load_mid rfl 37 (.tmp 64) rfl g2 (o2 + 0 * 32) rfl (bytV di) _ Hrg.out Tryd.underlying37 rfl (by rw [bytV_len, Hdl.out]; kernel_rfl) ?_) | (refine wpList_store_rowTo rfl 37 (.tmp 15) (.tmp 65) rfl rfl wr.heap.size (bytV di).toArray rfl rfl 37 _ (heap_alloc_new wr _) (id_size Hdl.out) (by rw [Hds.out]; rfl) (id_one _) ?_; refine box_absL (boxL_made wr _ 37 (bytV di)) ?_; intro wu hbx; have HBu := Lib.hid hbx; have HBv := Lib.hid (HBr.out.below hbx.b); have HLu0 := Lib.hid (HBk.out.trans (hbx.b.mono HBk.out.size)); clear hbx) | (refine wpList_load_mid rfl 37 (.tmp 15) rfl wr.heap.size 0 rfl (bytV di) _ (fun j y hj => by rw [Nat.zero_add]; exact HBu.out.r j y hj) Tryd.underlying37 rfl (by rw [bytV_len, Hdl.out]; kernel_rfl) ?_) | (refine wpList_load_mid rfl 37 (.tmp 13) rfl S2.heap.size 0 rfl (bytV d2) _ (fun j y hj => by rw [Nat.zero_add]; exact HBv.out.r j y hj) Tryd.underlying37 rfl (by rw [bytV_len, Hl_d2.out]; kernel_rfl) ?_))
                  go_ret
                  exact ⟨rfl, HW4.out.trans ((HLr.out.bl.trans (HBu.out.b.mono HLr.out.bl.size)).mono HW4.out.size)⟩
                · subst e
                  go_wp2_with (first | (refine wpList_load_mid rfl 37 (.tmp 64) rfl g2 (o2 + 1 * 32) rfl (bytV di) _ Hrg.out Tryd.underlying37 rfl (by rw [bytV_len, Hdl.out]; kernel_rfl) ?_) | (refine wpList_store_rowTo rfl 37 (.tmp 15) (.tmp 65) rfl rfl wr.heap.size (bytV di).toArray rfl rfl 37 _ (heap_alloc_new wr _) (id_size Hdl.out) (by rw [Hds.out]; rfl) (id_one _) ?_; refine box_absL (boxL_made wr _ 37 (bytV di)) ?_; intro wu hbx; have HBu := Lib.hid hbx; have HBv := Lib.hid (HBr.out.below hbx.b); have HLu0 := Lib.hid (HBk.out.trans (hbx.b.mono HBk.out.size)); clear hbx) | (refine wpList_load_mid rfl 37 (.tmp 15) rfl wr.heap.size 0 rfl (bytV di) _ (fun j y hj => by rw [Nat.zero_add]; exact HBu.out.r j y hj) Tryd.underlying37 rfl (by rw [bytV_len, Hdl.out]; kernel_rfl) ?_) | (refine wpList_load_mid rfl 37 (.tmp 13) rfl S2.heap.size 0 rfl (bytV d2) _ (fun j y hj => by rw [Nat.zero_add]; exact HBv.out.r j y hj) Tryd.underlying37 rfl (by rw [bytV_len, Hl_d2.out]; kernel_rfl) ?_))
                  go_ret
                  exact ⟨rfl, HW4.out.trans ((HLr.out.bl.trans (HBu.out.b.mono HLr.out.bl.size)).mono HW4.out.size)⟩
              · have heq : ∀ w1, (Op.equalIn 10000 37 (.agg (bytV di).toArray) (.agg (bytV d2).toArray)).run Tryd.prog w1 = .ok false w1 := fun w1 => by rw [heq0 w1, decide_eq_false he]
                have Hne := Lib.hid he
                clear heq0 he
                go_wp2_with (first | (refine wpList_load_mid rfl 37 (.tmp 64) rfl g2 (o2 + i * 32) rfl (bytV di) _ Hrg.out Tryd.underlying37 rfl (by rw [bytV_len, Hdl.out]; kernel_rfl) ?_) | (refine wpList_store_rowTo rfl 37 (.tmp 15) (.tmp 65) rfl rfl wr.heap.size (bytV di).toArray rfl rfl 37 _ (heap_alloc_new wr _) (id_size Hdl.out) (by rw [Hds.out]; rfl) (id_one _) ?_; refine box_absL (boxL_made wr _ 37 (bytV di)) ?_; intro wu hbx; have HBu := Lib.hid hbx; have HBv := Lib.hid (HBr.out.below hbx.b); have HLu0 := Lib.hid (HBk.out.trans (hbx.b.mono HBk.out.size)); clear hbx) | (refine wpList_load_mid rfl 37 (.tmp 15) rfl wr.heap.size 0 rfl (bytV di) _ (fun j y hj => by rw [Nat.zero_add]; exact HBu.out.r j y hj) Tryd.underlying37 rfl (by rw [bytV_len, Hdl.out]; kernel_rfl) ?_) | (refine wpList_load_mid rfl 37 (.tmp 13) rfl S2.heap.size 0 rfl (bytV d2) _ (fun j y hj => by rw [Nat.zero_add]; exact HBv.out.r j y hj) Tryd.underlying37 rfl (by rw [bytV_len, Hl_d2.out]; kernel_rfl) ?_))
                go_roundg (gk - 1)
                case measure => omega
                case rel => exact ⟨i + 1, by omega, by go_num, HLu0.out, fun k hk h => by
                  rcases (by omega : k < i ∨ k = i) with hk2 | rfl
                  · exact HN.out k hk2 h
                  · intro e2; exact absurd (Hdi.out.trans e2) Hne.out⟩
            · obtain rfl : i = 2 := by omega
              have hltI : ¬ ((2 : Nat) : Int) < 2 := by decide
              have N2 := Lib.hid HN.out
              have hbl : (bytV d2).length = 32 := by rw [bytV_len]; exact Hl_d2.out
              go_wp2_with (first | (refine wpList_load_mid rfl 37 (.tmp 13) rfl S2.heap.size 0 rfl (bytV d2) _ (fun j y hj => by rw [Nat.zero_add]; exact HBr.out.r j y hj) Tryd.underlying37 rfl (by rw [bytV_len, Hl_d2.out]; kernel_rfl) ?_) | (at_builtin; go_must (refine wpList_append_gen eltI rfl (.tmp 83) (.tmp 85) rfl rfl w4.heap.size _ [d0, d1] rfl (HLr.out.below ((Below.refl _ _).alloc (Nat.le_refl _) _)).ow _ [d2] (LAt.block (by rw [bytV_len]; exact Hl_d2.out) (fold_all (bytV d2) #[.int .u8 0, .int .u8 0, .int .u8 0, .int .u8 0, .int .u8 0, .int .u8 0, .int .u8 0, .int .u8 0, .int .u8 0, .int .u8 0, .int .u8 0, .int .u8 0, .int .u8 0, .int .u8 0, .int .u8 0, .int .u8 0, .int .u8 0, .int .u8 0, .int .u8 0, .int .u8 0, .int .u8 0, .int .u8 0, .int .u8 0, .int .u8 0, .int .u8 0, .int .u8 0, .int .u8 0, .int .u8 0, .int .u8 0, .int .u8 0, .int .u8 0, .int .u8 0] (by rw [bytV_len, Hl_d2.out]; rfl)) (heap_alloc_new wr _)) rfl (by simp only [List.length_cons, List.length_nil]; omega) (by unfold maxLen; simp only [List.length_cons, List.length_nil]; omega) (by have := HLr.out.bl.size; simp; omega) ?_); intro va w5 ho5 hg5; have HLn := Lib.hid ((HLr.out.below ((Below.refl _ _).alloc (Nat.le_refl _) _)).put ho5 hg5); clear ho5 hg5))
              replace HL := HLn
              clear HLr HBr HBk HB HN HLn hbl
              obtain ⟨pp, pc3, rfl⟩ := own_slice' (n := 3) HL.out.ow
              have HLen := Lib.hid (lens_at (L := [d0, d1, d2]) (by
                intro y hy
                simp only [List.mem_cons, List.not_mem_nil, or_false] at hy
                rcases hy with h | h | h
                · rw [h]; exact Hl_d0.out
                · rw [h]; exact Hl_d1.out
                · rw [h]; exact Hl_d2.out))
              obtain ⟨g3, o3, rfl, hcap3, hmax3⟩ := row_at (n := 3) rfl HLen.out HL.out.ow (by decide)
              rw [rounds_succ]
              go_wp2_with (first | (refine wpList_index (ix2_0 _ _) rfl rfl rfl rfl ?_) | (refine wpList_index (ix2_1 _ _) rfl rfl rfl rfl ?_) | (refine wpList_index (ix3_0 _ _ _) rfl rfl rfl rfl ?_) | (refine wpList_index (ix3_1 _ _ _) rfl rfl rfl rfl ?_) | (refine wpList_index (ix3_2 _ _ _) rfl rfl rfl rfl ?_))
              rw [rounds_succ]
              go_wp2_with (first | (refine wpList_index (ix2_0 _ _) rfl rfl rfl rfl ?_) | (refine wpList_index (ix2_1 _ _) rfl rfl rfl rfl ?_) | (refine wpList_index (ix3_0 _ _ _) rfl rfl rfl rfl ?_) | (refine wpList_index (ix3_1 _ _ _) rfl rfl rfl rfl ?_) | (refine wpList_index (ix3_2 _ _ _) rfl rfl rfl rfl ?_))
              refine wp_loop_rounds 4 ?_
              rw [rounds_succ]
              go_wp2_with (first | (refine wpList_index (ix2_0 _ _) rfl rfl rfl rfl ?_) | (refine wpList_index (ix2_1 _ _) rfl rfl rfl rfl ?_) | (refine wpList_index (ix3_0 _ _ _) rfl rfl rfl rfl ?_) | (refine wpList_index (ix3_1 _ _ _) rfl rfl rfl rfl ?_) | (refine wpList_index (ix3_2 _ _ _) rfl rfl rfl rfl ?_))
              refine (DS3.out _ (HW4.out.trans (HL.out.bl.mono HW4.out.size))).mono ?_
              rintro e S3 ⟨rfl, hB2⟩
              replace HL := Lib.hid (HL.out.below hB2)
              clear hB2
              go_wp2_with (first | (refine wpList_store_rowTo rfl 37 (.tmp 13) (.tmp 58) rfl rfl S3.heap.size (bytV d0).toArray rfl rfl 37 _ (heap_alloc_new S3 _) (id_size Hl_d0.out) (by rw [Hs_d0.out]; rfl) (id_one _) ?_; refine box_absL (boxL_made S3 _ 37 (bytV d0)) ?_; intro wT hbx; have HB := Lib.hid hbx; replace HL := Lib.hid (HL.out.below hbx.b); clear hbx))
              go_loopg [61] 3 (fun g iv wr => ∃ i : Nat, i + g = 3 ∧ iv = .int .i64 i ∧ Below wT.heap.size wT wr ∧ ∀ k, k < i → ∀ h : k < ([d0, d1, d2] : List (List UInt8)).length, [d0, d1, d2][k] = d0 → k % 3 = 0)
              case atStart => exact ⟨0, by omega, rfl, Below.refl _ _, fun k hk => absurd hk (by omega)⟩
              case round =>
                obtain ⟨i, hig, rfl, hBr, hno⟩ := hrel
                have HLr := Lib.hid (HL.out.below hBr)
                have HBr := Lib.hid (HB.out.below hBr)
                have HBk := Lib.hid hBr
                have HN := Lib.hid hno
                clear hBr hno
                by_cases hlt : i < 3
                · have hltI : (i : Int) < 3 := by omega
                  have hiL : i < ([d0, d1, d2] : List (List UInt8)).length := by simpa using hlt
                  have hdl := HLen.out i hiL
                  obtain ⟨hgl, hrg0⟩ := row_in (n := 3) rfl HLen.out HLr.out.ow (by decide)
                  have hrg := hrg0 i hiL
                  obtain ⟨di, hdi⟩ : ∃ di, di = ([d0, d1, d2] : List (List UInt8))[i] := ⟨_, rfl⟩
                  rw [← hdi] at hdl hrg
                  have Hdi := Lib.hid hdi
                  have Hdl := Lib.hid hdl
                  have Hrg := Lib.hid hrg
                  have Hds := Lib.hid (show (bytV di).toArray.size = 32 by rw [List.size_toArray, bytV_len, hdl])
                  have heq0 := fun w1 => eq_id (a := di) (b := d0) hdl Hl_d0.out w1
                  clear hdi hdl hrg hrg0
                  by_cases he : di = d0
                  · have heq : ∀ w1, (Op.equalIn 10000 37 (.agg (bytV di).toArray) (.agg (bytV d0).toArray)).run Tryd.prog w1 = .ok true w1 := fun w1 => by rw [heq0 w1, decide_eq_true he]
                    clear heq0 he
                    rcases (by omega : i = 0 ∨ i = 1 ∨ i = 2) with e | e | e
                    · subst e
                      go_wp2_with (first | (refine wpList_load_mid rfl 37 (.tmp 64) rfl g3 (o3 + 0 * 32) rfl (bytV di) _ Hrg.out Tryd.underlying37 rfl (by rw [bytV_len, Hdl.out]; kernel_rfl) ?_) | (refine wpList_store_rowTo rfl 37 (.tmp 15) (.tmp 65) rfl rfl wr.heap.size (bytV di).toArray rfl rfl 37 _ (heap_alloc_new wr _) (id_size Hdl.out) (by rw [Hds.out]; rfl) (id_one _) ?_; refine box_absL (boxL_made wr _ 37 (bytV di)) ?_; intro wu hbx; have HBu := Lib.hid hbx; have HBv := Lib.hid (HBr.out.below hbx.b); have HLu0 := Lib.hid (HBk.out.trans (hbx.b.mono HBk.out.size)); clear hbx) | (refine wpList_load_mid rfl 37 (.tmp 15) rfl wr.heap.size 0 rfl (bytV di) _ (fun j y hj => by rw [Nat.zero_add]; exact HBu.out.r j y hj) Tryd.underlying37 rfl (by rw [bytV_len, Hdl.out]; kernel_rfl) ?_) | (refine wpList_load_mid rfl 37 (.tmp 13) rfl S3.heap.size 0 rfl (bytV d0) _ (fun j y hj => by rw [Nat.zero_add]; exact HBv.out.r j y hj) Tryd.underlying37 rfl (by rw [bytV_len, Hl_d0.out]; kernel_rfl) ?_))
                      go_roundg (gk - 1)
                      case measure => omega
                      case rel => exact ⟨0 + 1, by omega, by go_num, HLu0.out, fun k hk h => by
                        rcases (by omega : k < 0 ∨ k = 0) with hk2 | rfl
                        · exact HN.out k hk2 h
                        · intro _; rfl⟩
                    · subst e
                      go_wp2_with (first | (refine wpList_load_mid rfl 37 (.tmp 64) rfl g3 (o3 + 1 * 32) rfl (bytV di) _ Hrg.out Tryd.underlying37 rfl (by rw [bytV_len, Hdl.out]; kernel_rfl) ?_) | (refine wpList_store_rowTo rfl 37 (.tmp 15) (.tmp 65) rfl rfl wr.heap.size (bytV di).toArray rfl rfl 37 _ (heap_alloc_new wr _) (id_size Hdl.out) (by rw [Hds.out]; rfl) (id_one _) ?_; refine box_absL (boxL_made wr _ 37 (bytV di)) ?_; intro wu hbx; have HBu := Lib.hid hbx; have HBv := Lib.hid (HBr.out.below hbx.b); have HLu0 := Lib.hid (HBk.out.trans (hbx.b.mono HBk.out.size)); clear hbx) | (refine wpList_load_mid rfl 37 (.tmp 15) rfl wr.heap.size 0 rfl (bytV di) _ (fun j y hj => by rw [Nat.zero_add]; exact HBu.out.r j y hj) Tryd.underlying37 rfl (by rw [bytV_len, Hdl.out]; kernel_rfl) ?_) | (refine wpList_load_mid rfl 37 (.tmp 13) rfl S3.heap.size 0 rfl (bytV d0) _ (fun j y hj => by rw [Nat.zero_add]; exact HBv.out.r j y hj) Tryd.underlying37 rfl (by rw [bytV_len, Hl_d0.out]; kernel_rfl) ?_))
                      go_ret
                      exact ⟨rfl, HW4.out.trans ((HLr.out.bl.trans (HBu.out.b.mono HLr.out.bl.size)).mono HW4.out.size)⟩
                    · subst e
                      go_wp2_with (first | (refine wpList_load_mid rfl 37 (.tmp 64) rfl g3 (o3 + 2 * 32) rfl (bytV di) _ Hrg.out Tryd.underlying37 rfl (by rw [bytV_len, Hdl.out]; kernel_rfl) ?_) | (refine wpList_store_rowTo rfl 37 (.tmp 15) (.tmp 65) rfl rfl wr.heap.size (bytV di).toArray rfl rfl 37 _ (heap_alloc_new wr _) (id_size Hdl.out) (by rw [Hds.out]; rfl) (id_one _) ?_; refine box_absL (boxL_made wr _ 37 (bytV di)) ?_; intro wu hbx; have HBu := Lib.hid hbx; have HBv := Lib.hid (HBr.out.below hbx.b); have HLu0 := Lib.hid (HBk.out.trans (hbx.b.mono HBk.out.size)); clear hbx) | (refine wpList_load_mid rfl 37 (.tmp 15) rfl wr.heap.size 0 rfl (bytV di) _ (fun j y hj => by rw [Nat.zero_add]; exact HBu.out.r j y hj) Tryd.underlying37 rfl (by rw [bytV_len, Hdl.out]; kernel_rfl) ?_) | (refine wpList_load_mid rfl 37 (.tmp 13) rfl S3.heap.size 0 rfl (bytV d0) _ (fun j y hj => by rw [Nat.zero_add]; exact HBv.out.r j y hj) Tryd.underlying37 rfl (by rw [bytV_len, Hl_d0.out]; kernel_rfl) ?_))
                      go_ret
                      exact ⟨rfl, HW4.out.trans ((HLr.out.bl.trans (HBu.out.b.mono HLr.out.bl.size)).mono HW4.out.size)⟩
                  · have heq : ∀ w1, (Op.equalIn 10000 37 (.agg (bytV di).toArray) (.agg (bytV d0).toArray)).run Tryd.prog w1 = .ok false w1 := fun w1 => by rw [heq0 w1, decide_eq_false he]
                    have Hne := Lib.hid he
                    clear heq0 he
                    go_wp2_with (first | (refine wpList_load_mid rfl 37 (.tmp 64) rfl g3 (o3 + i * 32) rfl (bytV di) _ Hrg.out Tryd.underlying37 rfl (by rw [bytV_len, Hdl.out]; kernel_rfl) ?_) | (refine wpList_store_rowTo rfl 37 (.tmp 15) (.tmp 65) rfl rfl wr.heap.size (bytV di).toArray rfl rfl 37 _ (heap_alloc_new wr _) (id_size Hdl.out) (by rw [Hds.out]; rfl) (id_one _) ?_; refine box_absL (boxL_made wr _ 37 (bytV di)) ?_; intro wu hbx; have HBu := Lib.hid hbx; have HBv := Lib.hid (HBr.out.below hbx.b); have HLu0 := Lib.hid (HBk.out.trans (hbx.b.mono HBk.out.size)); clear hbx) | (refine wpList_load_mid rfl 37 (.tmp 15) rfl wr.heap.size 0 rfl (bytV di) _ (fun j y hj => by rw [Nat.zero_add]; exact HBu.out.r j y hj) Tryd.underlying37 rfl (by rw [bytV_len, Hdl.out]; kernel_rfl) ?_) | (refine wpList_load_mid rfl 37 (.tmp 13) rfl S3.heap.size 0 rfl (bytV d0) _ (fun j y hj => by rw [Nat.zero_add]; exact HBv.out.r j y hj) Tryd.underlying37 rfl (by rw [bytV_len, Hl_d0.out]; kernel_rfl) ?_))
                    go_roundg (gk - 1)
                    case measure => omega
                    case rel => exact ⟨i + 1, by omega, by go_num, HLu0.out, fun k hk h => by
                      rcases (by omega : k < i ∨ k = i) with hk2 | rfl
                      · exact HN.out k hk2 h
                      · intro e2; exact absurd (Hdi.out.trans e2) Hne.out⟩
                · obtain rfl : i = 3 := by omega
                  have hltI : ¬ ((3 : Nat) : Int) < 3 := by decide
                  have N3 := Lib.hid HN.out
                  have hbl : (bytV d0).length = 32 := by rw [bytV_len]; exact Hl_d0.out
                  go_wp2_with (first | (refine wpList_load_mid rfl 37 (.tmp 13) rfl S3.heap.size 0 rfl (bytV d0) _ (fun j y hj => by rw [Nat.zero_add]; exact HBr.out.r j y hj) Tryd.underlying37 rfl (by rw [bytV_len, Hl_d0.out]; kernel_rfl) ?_) | (at_builtin; go_must (refine wpList_append_gen eltI rfl (.tmp 83) (.tmp 85) rfl rfl w4.heap.size _ [d0, d1, d2] rfl (HLr.out.below ((Below.refl _ _).alloc (Nat.le_refl _) _)).ow _ [d0] (LAt.block (by rw [bytV_len]; exact Hl_d0.out) (fold_all (bytV d0) #[.int .u8 0, .int .u8 0, .int .u8 0, .int .u8 0, .int .u8 0, .int .u8 0, .int .u8 0, .int .u8 0, .int .u8 0, .int .u8 0, .int .u8 0, .int .u8 0, .int .u8 0, .int .u8 0, .int .u8 0, .int .u8 0, .int .u8 0, .int .u8 0, .int .u8 0, .int .u8 0, .int .u8 0, .int .u8 0, .int .u8 0, .int .u8 0, .int .u8 0, .int .u8 0, .int .u8 0, .int .u8 0, .int .u8 0, .int .u8 0, .int .u8 0, .int .u8 0] (by rw [bytV_len, Hl_d0.out]; rfl)) (heap_alloc_new wr _)) rfl (by simp only [List.length_cons, List.length_nil]; omega) (by unfold maxLen; simp only [List.length_cons, List.length_nil]; omega) (by have := HLr.out.bl.size; simp; omega) ?_); intro va w5 ho5 hg5; have HLn := Lib.hid ((HLr.out.below ((Below.refl _ _).alloc (Nat.le_refl _) _)).put ho5 hg5); clear ho5 hg5))
                  replace HL := HLn
                  clear HLr HBr HBk HB HN HLn hbl
                  obtain ⟨pp, pc4, rfl⟩ := own_slice' (n := 4) HL.out.ow
                  have HLen := Lib.hid (lens_at (L := [d0, d1, d2, d0]) (by
                    intro y hy
                    simp only [List.mem_cons, List.not_mem_nil, or_false] at hy
                    rcases hy with h | h | h | h
                    · rw [h]; exact Hl_d0.out
                    · rw [h]; exact Hl_d1.out
                    · rw [h]; exact Hl_d2.out
                    · rw [h]; exact Hl_d0.out))
                  obtain ⟨g4, o4, rfl, hcap4, hmax4⟩ := row_at (n := 4) rfl HLen.out HL.out.ow (by decide)
                  rw [rounds_succ]
                  go_wp2_with (first | (refine wpList_index (ix2_0 _ _) rfl rfl rfl rfl ?_) | (refine wpList_index (ix2_1 _ _) rfl rfl rfl rfl ?_) | (refine wpList_index (ix3_0 _ _ _) rfl rfl rfl rfl ?_) | (refine wpList_index (ix3_1 _ _ _) rfl rfl rfl rfl ?_) | (refine wpList_index (ix3_2 _ _ _) rfl rfl rfl rfl ?_))
                  refine (DS4.out _ (HW4.out.trans (HL.out.bl.mono HW4.out.size))).mono ?_
                  rintro e S4 ⟨rfl, hB2⟩
                  replace HL := Lib.hid (HL.out.below hB2)
                  clear hB2
                  go_wp2_with (first | (refine wpList_store_rowTo rfl 37 (.tmp 13) (.tmp 58) rfl rfl S4.heap.size (bytV d1).toArray rfl rfl 37 _ (heap_alloc_new S4 _) (id_size Hl_d1.out) (by rw [Hs_d1.out]; rfl) (id_one _) ?_; refine box_absL (boxL_made S4 _ 37 (bytV d1)) ?_; intro wT hbx; have HB := Lib.hid hbx; replace HL := Lib.hid (HL.out.below hbx.b); clear hbx))
                  go_loopg [61] 4 (fun g iv wr => ∃ i : Nat, i + g = 4 ∧ iv = .int .i64 i ∧ Below wT.heap.size wT wr ∧ ∀ k, k < i → ∀ h : k < ([d0, d1, d2, d0] : List (List UInt8)).length, [d0, d1, d2, d0][k] = d1 → k % 3 = 1)
                  case atStart => exact ⟨0, by omega, rfl, Below.refl _ _, fun k hk => absurd hk (by omega)⟩
                  case round =>
                    obtain ⟨i, hig, rfl, hBr, hno⟩ := hrel
                    have HLr := Lib.hid (HL.out.below hBr)
                    have HBr := Lib.hid (HB.out.below hBr)
                    have HBk := Lib.hid hBr
                    have HN := Lib.hid hno
                    clear hBr hno
                    by_cases hlt : i < 4
                    · have hltI : (i : Int) < 4 := by omega
                      have hiL : i < ([d0, d1, d2, d0] : List (List UInt8)).length := by simpa using hlt
                      have hdl := HLen.out i hiL
                      obtain ⟨hgl, hrg0⟩ := row_in (n := 4) rfl HLen.out HLr.out.ow (by decide)
                      have hrg := hrg0 i hiL
                      obtain ⟨di, hdi⟩ : ∃ di, di = ([d0, d1, d2, d0] : List (List UInt8))[i] := ⟨_, rfl⟩
                      rw [← hdi] at hdl hrg
                      have Hdi := Lib.hid hdi
                      have Hdl := Lib.hid hdl
                      have Hrg := Lib.hid hrg
                      have Hds := Lib.hid (show (bytV di).toArray.size = 32 by rw [List.size_toArray, bytV_len, hdl])
                      have heq0 := fun w1 => eq_id (a := di) (b := d1) hdl Hl_d1.out w1
                      clear hdi hdl hrg hrg0
                      by_cases he : di = d1
                      · have heq : ∀ w1, (Op.equalIn 10000 37 (.agg (bytV di).toArray) (.agg (bytV d1).toArray)).run Tryd.prog w1 = .ok true w1 := fun w1 => by rw [heq0 w1, decide_eq_true he]
                        clear heq0 he
                        rcases (by omega : i = 0 ∨ i = 1 ∨ i = 2 ∨ i = 3) with e | e | e | e
                        · subst e
                          go_wp2_with (first | (refine wpList_load_mid rfl 37 (.tmp 64) rfl g4 (o4 + 0 * 32) rfl (bytV di) _ Hrg.out Tryd.underlying37 rfl (by rw [bytV_len, Hdl.out]; kernel_rfl) ?_) | (refine wpList_store_rowTo rfl 37 (.tmp 15) (.tmp 65) rfl rfl wr.heap.size (bytV di).toArray rfl rfl 37 _ (heap_alloc_new wr _) (id_size Hdl.out) (by rw [Hds.out]; rfl) (id_one _) ?_; refine box_absL (boxL_made wr _ 37 (bytV di)) ?_; intro wu hbx; have HBu := Lib.hid hbx; have HBv := Lib.hid (HBr.out.below hbx.b); have HLu0 := Lib.hid (HBk.out.trans (hbx.b.mono HBk.out.size)); clear hbx) | (refine wpList_load_mid rfl 37 (.tmp 15) rfl wr.heap.size 0 rfl (bytV di) _ (fun j y hj => by rw [Nat.zero_add]; exact HBu.out.r j y hj) Tryd.underlying37 rfl (by rw [bytV_len, Hdl.out]; kernel_rfl) ?_) | (refine wpList_load_mid rfl 37 (.tmp 13) rfl S4.heap.size 0 rfl (bytV d1) _ (fun j y hj => by rw [Nat.zero_add]; exact HBv.out.r j y hj) Tryd.underlying37 rfl (by rw [bytV_len, Hl_d1.out]; kernel_rfl) ?_))
                          go_ret
                          exact ⟨rfl, HW4.out.trans ((HLr.out.bl.trans (HBu.out.b.mono HLr.out.bl.size)).mono HW4.out.size)⟩
                        · subst e
                          go_wp2_with (first | (refine wpList_load_mid rfl 37 (.tmp 64) rfl g4 (o4 + 1 * 32) rfl (bytV di) _ Hrg.out Tryd.underlying37 rfl (by rw [bytV_len, Hdl.out]; kernel_rfl) ?_) | (refine wpList_store_rowTo rfl 37 (.tmp 15) (.tmp 65) rfl rfl wr.heap.size (bytV di).toArray rfl rfl 37 _ (heap_alloc_new wr _) (id_size Hdl.out) (by rw [Hds.out]; rfl) (id_one _) ?_; refine box_absL (boxL_made wr _ 37 (bytV di)) ?_; intro wu hbx; have HBu := Lib.hid hbx; have HBv := Lib.hid (HBr.out.below hbx.b); have HLu0 := Lib.hid (HBk.out.trans (hbx.b.mono HBk.out.size)); clear hbx) | (refine wpList_load_mid rfl 37 (.tmp 15) rfl wr.heap.size 0 rfl (bytV di) _ (fun j y hj => by rw [Nat.zero_add]; exact HBu.out.r j y hj) Tryd.underlying37 rfl (by rw [bytV_len, Hdl.out]; kernel_rfl) ?_) | (refine wpList_load_mid rfl 37 (.tmp 13) rfl S4.heap.size 0 rfl (bytV d1) _ (fun j y hj => by rw [Nat.zero_add]; exact HBv.out.r j y hj) Tryd.underlying37 rfl (by rw [bytV_len, Hl_d1.out]; kernel_rfl) ?_))
                          go_roundg (gk - 1)
                          case measure => omega
                          case rel => exact ⟨1 + 1, by omega, by go_num, HLu0.out, fun k hk h => by
                            rcases (by omega : k < 1 ∨ k = 1) with hk2 | rfl
                            · exact HN.out k hk2 h
                            · intro _; rfl⟩
                        · subst e
                          go_wp2_with (first | (refine wpList_load_mid rfl 37 (.tmp 64) rfl g4 (o4 + 2 * 32) rfl (bytV di) _ Hrg.out Tryd.underlying37 rfl (by rw [bytV_len, Hdl.out]; kernel_rfl) ?_) | (refine wpList_store_rowTo rfl 37 (.tmp 15) (.tmp 65) rfl rfl wr.heap.size (bytV di).toArray rfl rfl 37 _ (heap_alloc_new wr _) (id_size Hdl.out) (by rw [Hds.out]; rfl) (id_one _) ?_; refine box_absL (boxL_made wr _ 37 (bytV di)) ?_; intro wu hbx; have HBu := Lib.hid hbx; have HBv := Lib.hid (HBr.out.below hbx.b); have HLu0 := Lib.hid (HBk.out.trans (hbx.b.mono HBk.out.size)); clear hbx) | (refine wpList_load_mid rfl 37 (.tmp 15) rfl wr.heap.size 0 rfl (bytV di) _ (fun j y hj => by rw [Nat.zero_add]; exact HBu.out.r j y hj) Tryd.underlying37 rfl (by rw [bytV_len, Hdl.out]; kernel_rfl) ?_) | (refine wpList_load_mid rfl 37 (.tmp 13) rfl S4.heap.size 0 rfl (bytV d1) _ (fun j y hj => by rw [Nat.zero_add]; exact HBv.out.r j y hj) Tryd.underlying37 rfl (by rw [bytV_len, Hl_d1.out]; kernel_rfl) ?_))
                          go_ret
                          exact ⟨rfl, HW4.out.trans ((HLr.out.bl.trans (HBu.out.b.mono HLr.out.bl.size)).mono HW4.out.size)⟩
                        · subst e
                          go_wp2_with (first | (refine wpList_load_mid rfl 37 (.tmp 64) rfl g4 (o4 + 3 * 32) rfl (bytV di) _ Hrg.out Tryd.underlying37 rfl (by rw [bytV_len, Hdl.out]; kernel_rfl) ?_) | (refine wpList_store_rowTo rfl 37 (.tmp 15) (.tmp 65) rfl rfl wr.heap.size (bytV di).toArray rfl rfl 37 _ (heap_alloc_new wr _) (id_size Hdl.out) (by rw [Hds.out]; rfl) (id_one _) ?_; refine box_absL (boxL_made wr _ 37 (bytV di)) ?_; intro wu hbx; have HBu := Lib.hid hbx; have HBv := Lib.hid (HBr.out.below hbx.b); have HLu0 := Lib.hid (HBk.out.trans (hbx.b.mono HBk.out.size)); clear hbx) | (refine wpList_load_mid rfl 37 (.tmp 15) rfl wr.heap.size 0 rfl (bytV di) _ (fun j y hj => by rw [Nat.zero_add]; exact HBu.out.r j y hj) Tryd.underlying37 rfl (by rw [bytV_len, Hdl.out]; kernel_rfl) ?_) | (refine wpList_load_mid rfl 37 (.tmp 13) rfl S4.heap.size 0 rfl (bytV d1) _ (fun j y hj => by rw [Nat.zero_add]; exact HBv.out.r j y hj) Tryd.underlying37 rfl (by rw [bytV_len, Hl_d1.out]; kernel_rfl) ?_))
                          go_ret
                          exact ⟨rfl, HW4.out.trans ((HLr.out.bl.trans (HBu.out.b.mono HLr.out.bl.size)).mono HW4.out.size)⟩
                      · have heq : ∀ w1, (Op.equalIn 10000 37 (.agg (bytV di).toArray) (.agg (bytV d1).toArray)).run Tryd.prog w1 = .ok false w1 := fun w1 => by rw [heq0 w1, decide_eq_false he]
                        have Hne := Lib.hid he
                        clear heq0 he
                        go_wp2_with (first | (refine wpList_load_mid rfl 37 (.tmp 64) rfl g4 (o4 + i * 32) rfl (bytV di) _ Hrg.out Tryd.underlying37 rfl (by rw [bytV_len, Hdl.out]; kernel_rfl) ?_) | (refine wpList_store_rowTo rfl 37 (.tmp 15) (.tmp 65) rfl rfl wr.heap.size (bytV di).toArray rfl rfl 37 _ (heap_alloc_new wr _) (id_size Hdl.out) (by rw [Hds.out]; rfl) (id_one _) ?_; refine box_absL (boxL_made wr _ 37 (bytV di)) ?_; intro wu hbx; have HBu := Lib.hid hbx; have HBv := Lib.hid (HBr.out.below hbx.b); have HLu0 := Lib.hid (HBk.out.trans (hbx.b.mono HBk.out.size)); clear hbx) | (refine wpList_load_mid rfl 37 (.tmp 15) rfl wr.heap.size 0 rfl (bytV di) _ (fun j y hj => by rw [Nat.zero_add]; exact HBu.out.r j y hj) Tryd.underlying37 rfl (by rw [bytV_len, Hdl.out]; kernel_rfl) ?_) | (refine wpList_load_mid rfl 37 (.tmp 13) rfl S4.heap.size 0 rfl (bytV d1) _ (fun j y hj => by rw [Nat.zero_add]; exact HBv.out.r j y hj) Tryd.underlying37 rfl (by rw [bytV_len, Hl_d1.out]; kernel_rfl) ?_))
                        go_roundg (gk - 1)
                        case measure => omega
                        case rel => exact ⟨i + 1, by omega, by go_num, HLu0.out, fun k hk h => by
                          rcases (by omega : k < i ∨ k = i) with hk2 | rfl
                          · exact HN.out k hk2 h
                          · intro e2; exact absurd (Hdi.out.trans e2) Hne.out⟩
                    · obtain rfl : i = 4 := by omega
                      have hltI : ¬ ((4 : Nat) : Int) < 4 := by decide
                      have N4 := Lib.hid HN.out
                      have hbl : (bytV d1).length = 32 := by rw [bytV_len]; exact Hl_d1.out
                      go_wp2_with (first | (refine wpList_load_mid rfl 37 (.tmp 13) rfl S4.heap.size 0 rfl (bytV d1) _ (fun j y hj => by rw [Nat.zero_add]; exact HBr.out.r j y hj) Tryd.underlying37 rfl (by rw [bytV_len, Hl_d1.out]; kernel_rfl) ?_) | (at_builtin; go_must (refine wpList_append_gen eltI rfl (.tmp 83) (.tmp 85) rfl rfl w4.heap.size _ [d0, d1, d2, d0] rfl (HLr.out.below ((Below.refl _ _).alloc (Nat.le_refl _) _)).ow _ [d1] (LAt.block (by rw [bytV_len]; exact Hl_d1.out) (fold_all (bytV d1) #[.int .u8 0, .int .u8 0, .int .u8 0, .int .u8 0, .int .u8 0, .int .u8 0, .int .u8 0, .int .u8 0, .int .u8 0, .int .u8 0, .int .u8 0, .int .u8 0, .int .u8 0, .int .u8 0, .int .u8 0, .int .u8 0, .int .u8 0, .int .u8 0, .int .u8 0, .int .u8 0, .int .u8 0, .int .u8 0, .int .u8 0, .int .u8 0, .int .u8 0, .int .u8 0, .int .u8 0, .int .u8 0, .int .u8 0, .int .u8 0, .int .u8 0, .int .u8 0] (by rw [bytV_len, Hl_d1.out]; rfl)) (heap_alloc_new wr _)) rfl (by simp only [List.length_cons, List.length_nil]; omega) (by unfold maxLen; simp only [List.length_cons, List.length_nil]; omega) (by have := HLr.out.bl.size; simp; omega) ?_); intro va w5 ho5 hg5; have HLn := Lib.hid ((HLr.out.below ((Below.refl _ _).alloc (Nat.le_refl _) _)).put ho5 hg5); clear ho5 hg5))
                      replace HL := HLn
                      clear HLr HBr HBk HB HN HLn hbl
                      obtain ⟨pp, pc5, rfl⟩ := own_slice' (n := 5) HL.out.ow
                      have HLen := Lib.hid (lens_at (L := [d0, d1, d2, d0, d1]) (by
                        intro y hy
                        simp only [List.mem_cons, List.not_mem_nil, or_false] at hy
                        rcases hy with h | h | h | h | h
                        · rw [h]; exact Hl_d0.out
                        · rw [h]; exact Hl_d1.out
                        · rw [h]; exact Hl_d2.out
                        · rw [h]; exact Hl_d0.out
                        · rw [h]; exact Hl_d1.out))
                      obtain ⟨g5, o5, rfl, hcap5, hmax5⟩ := row_at (n := 5) rfl HLen.out HL.out.ow (by decide)
                      rw [rounds_succ]
                      go_wp2_with (first | (refine wpList_index (ix2_0 _ _) rfl rfl rfl rfl ?_) | (refine wpList_index (ix2_1 _ _) rfl rfl rfl rfl ?_) | (refine wpList_index (ix3_0 _ _ _) rfl rfl rfl rfl ?_) | (refine wpList_index (ix3_1 _ _ _) rfl rfl rfl rfl ?_) | (refine wpList_index (ix3_2 _ _ _) rfl rfl rfl rfl ?_))
                      refine (DS5.out _ (HW4.out.trans (HL.out.bl.mono HW4.out.size))).mono ?_
                      rintro e S5 ⟨rfl, hB2⟩
                      replace HL := Lib.hid (HL.out.below hB2)
                      clear hB2
                      go_wp2_with (first | (refine wpList_store_rowTo rfl 37 (.tmp 13) (.tmp 58) rfl rfl S5.heap.size (bytV d2).toArray rfl rfl 37 _ (heap_alloc_new S5 _) (id_size Hl_d2.out) (by rw [Hs_d2.out]; rfl) (id_one _) ?_; refine box_absL (boxL_made S5 _ 37 (bytV d2)) ?_; intro wT hbx; have HB := Lib.hid hbx; replace HL := Lib.hid (HL.out.below hbx.b); clear hbx))
                      go_loopg [61] 5 (fun g iv wr => ∃ i : Nat, i + g = 5 ∧ iv = .int .i64 i ∧ Below wT.heap.size wT wr ∧ ∀ k, k < i → ∀ h : k < ([d0, d1, d2, d0, d1] : List (List UInt8)).length, [d0, d1, d2, d0, d1][k] = d2 → k % 3 = 2)
                      case atStart => exact ⟨0, by omega, rfl, Below.refl _ _, fun k hk => absurd hk (by omega)⟩
                      case round =>
                        obtain ⟨i, hig, rfl, hBr, hno⟩ := hrel
                        have HLr := Lib.hid (HL.out.below hBr)
                        have HBr := Lib.hid (HB.out.below hBr)
                        have HBk := Lib.hid hBr
                        have HN := Lib.hid hno
                        clear hBr hno
                        by_cases hlt : i < 5
                        · have hltI : (i : Int) < 5 := by omega
                          have hiL : i < ([d0, d1, d2, d0, d1] : List (List UInt8)).length := by simpa using hlt
                          have hdl := HLen.out i hiL
                          obtain ⟨hgl, hrg0⟩ := row_in (n := 5) rfl HLen.out HLr.out.ow (by decide)
                          have hrg := hrg0 i hiL
                          obtain ⟨di, hdi⟩ : ∃ di, di = ([d0, d1, d2, d0, d1] : List (List UInt8))[i] := ⟨_, rfl⟩
                          rw [← hdi] at hdl hrg
                          have Hdi := Lib.hid hdi
                          have Hdl := Lib.hid hdl
                          have Hrg := Lib.hid hrg
                          have Hds := Lib.hid (show (bytV di).toArray.size = 32 by rw [List.size_toArray, bytV_len, hdl])
                          have heq0 := fun w1 => eq_id (a := di) (b := d2) hdl Hl_d2.out w1
                          clear hdi hdl hrg hrg0
                          by_cases he : di = d2
                          · have heq : ∀ w1, (Op.equalIn 10000 37 (.agg (bytV di).toArray) (.agg (bytV d2).toArray)).run Tryd.prog w1 = .ok true w1 := fun w1 => by rw [heq0 w1, decide_eq_true he]
                            clear heq0 he
                            rcases (by omega : i = 0 ∨ i = 1 ∨ i = 2 ∨ i = 3 ∨ i = 4) with e | e | e | e | e
                            · subst e
                              go_wp2_with (first | (refine wpList_load_mid rfl 37 (.tmp 64) rfl g5 (o5 + 0 * 32) rfl (bytV di) _ Hrg.out Tryd.underlying37 rfl (by rw [bytV_len, Hdl.out]; kernel_rfl) ?_) | (refine wpList_store_rowTo rfl 37 (.tmp 15) (.tmp 65) rfl rfl wr.heap.size (bytV di).toArray rfl rfl 37 _ (heap_alloc_new wr _) (id_size Hdl.out) (by rw [Hds.out]; rfl) (id_one _) ?_; refine box_absL (boxL_made wr _ 37 (bytV di)) ?_; intro wu hbx; have HBu := Lib.hid hbx; have HBv := Lib.hid (HBr.out.below hbx.b); have HLu0 := Lib.hid (HBk.out.trans (hbx.b.mono HBk.out.size)); clear hbx) | (refine wpList_load_mid rfl 37 (.tmp 15) rfl wr.heap.size 0 rfl (bytV di) _ (fun j y hj => by rw [Nat.zero_add]; exact HBu.out.r j y hj) Tryd.underlying37 rfl (by rw [bytV_len, Hdl.out]; kernel_rfl) ?_) | (refine wpList_load_mid rfl 37 (.tmp 13) rfl S5.heap.size 0 rfl (bytV d2) _ (fun j y hj => by rw [Nat.zero_add]; exact HBv.out.r j y hj) Tryd.underlying37 rfl (by rw [bytV_len, Hl_d2.out]; kernel_rfl) ?_))
                              go_ret
                              exact ⟨rfl, HW4.out.trans ((HLr.out.bl.trans (HBu.out.b.mono HLr.out.bl.size)).mono HW4.out.size)⟩
                            · subst e
                              go_wp2_with (first | (refine wpList_load_mid rfl 37 (.tmp 64) rfl g5 (o5 + 1 * 32) rfl (bytV di) _ Hrg.out Tryd.underlying37 rfl (by rw [bytV_len, Hdl.out]; kernel_rfl) ?_) | (refine wpList_store_rowTo rfl 37 (.tmp 15) (.tmp 65) rfl rfl wr.heap.size (bytV di).toArray rfl rfl 37 _ (heap_alloc_new wr _) (id_size Hdl.out) (by rw [Hds.out]; rfl) (id_one _) ?_; refine box_absL (boxL_made wr _ 37 (bytV di)) ?_; intro wu hbx; have HBu := Lib.hid hbx; have HBv := Lib.hid (HBr.out.below hbx.b); have HLu0 := Lib.hid (HBk.out.trans (hbx.b.mono HBk.out.size)); clear hbx) | (refine wpList_load_mid rfl 37 (.tmp 15) rfl wr.heap.size 0 rfl (bytV di) _ (fun j y hj => by rw [Nat.zero_add]; exact HBu.out.r j y hj) Tryd.underlying37 rfl (by rw [bytV_len, Hdl.out]; kernel_rfl) ?_) | (refine wpList_load_mid rfl 37 (.tmp 13) rfl S5.heap.size 0 rfl (bytV d2) _ (fun j y hj => by rw [Nat.zero_add]; exact HBv.out.r j y hj) Tryd.underlying37 rfl (by rw [bytV_len, Hl_d2.out]; kernel_rfl) ?_))
                              go_ret
                              exact ⟨rfl, HW4.out.trans ((HLr.out.bl.trans (HBu.out.b.mono HLr.out.bl.size)).mono HW4.out.size)⟩
                            · subst e
                              go_wp2_with (first | (refine wpList_load_mid rfl 37 (.tmp 64) rfl g5 (o5 + 2 * 32) rfl (bytV di) _ Hrg.out Tryd.underlying37 rfl (by rw [bytV_len, Hdl.out]; kernel_rfl) ?_) | (refine wpList_store_rowTo rfl 37 (.tmp 15) (.tmp 65) rfl rfl wr.heap.size (bytV di).toArray rfl rfl 37 _ (heap_alloc_new wr _) (id_size Hdl.out) (by rw [Hds.out]; rfl) (id_one _) ?_; refine box_absL (boxL_made wr _ 37 (bytV di)) ?_; intro wu hbx; have HBu := Lib.hid hbx; have HBv := Lib.hid (HBr.out.below hbx.b); have HLu0 := Lib.hid (HBk.out.trans (hbx.b.mono HBk.out.size)); clear hbx) | (refine wpList_load_mid rfl 37 (.tmp 15) rfl wr.heap.size 0 rfl (bytV di) _ (fun j y hj => by rw [Nat.zero_add]; exact HBu.out.r j y hj) Tryd.underlying37 rfl (by rw [bytV_len, Hdl.out]; kernel_rfl) ?_) | (refine wpList_load_mid rfl 37 (.tmp 13) rfl S5.heap.size 0 rfl (bytV d2) _ (fun j y hj => by rw [Nat.zero_add]; exact HBv.out.r j y hj) Tryd.underlying37 rfl (by rw [bytV_len, Hl_d2.out]; kernel_rfl) ?_))
                              go_roundg (gk - 1)
                              case measure => omega
                              case rel => exact ⟨2 + 1, by omega, by go_num, HLu0.out, fun k hk h => by
                                rcases (by omega : k < 2 ∨ k = 2) with hk2 | rfl
                                · exact HN.out k hk2 h
                                · intro _; rfl⟩
                            · subst e
                              go_wp2_with (first | (refine wpList_load_mid rfl 37 (.tmp 64) rfl g5 (o5 + 3 * 32) rfl (bytV di) _ Hrg.out Tryd.underlying37 rfl (by rw [bytV_len, Hdl.out]; kernel_rfl) ?_) | (refine wpList_store_rowTo rfl 37 (.tmp 15) (.tmp 65) rfl rfl wr.heap.size (bytV di).toArray rfl rfl 37 _ (heap_alloc_new wr _) (id_size Hdl.out) (by rw [Hds.out]; rfl) (id_one _) ?_; refine box_absL (boxL_made wr _ 37 (bytV di)) ?_; intro wu hbx; have HBu := Lib.hid hbx; have HBv := Lib.hid (HBr.out.below hbx.b); have HLu0 := Lib.hid (HBk.out.trans (hbx.b.mono HBk.out.size)); clear hbx) | (refine wpList_load_mid rfl 37 (.tmp 15) rfl wr.heap.size 0 rfl (bytV di) _ (fun j y hj => by rw [Nat.zero_add]; exact HBu.out.r j y hj) Tryd.underlying37 rfl (by rw [bytV_len, Hdl.out]; kernel_rfl) ?_) | (refine wpList_load_mid rfl 37 (.tmp 13) rfl S5.heap.size 0 rfl (bytV d2) _ (fun j y hj => by rw [Nat.zero_add]; exact HBv.out.r j y hj) Tryd.underlying37 rfl (by rw [bytV_len, Hl_d2.out]; kernel_rfl) ?_))
                              go_ret
                              exact ⟨rfl, HW4.out.trans ((HLr.out.bl.trans (HBu.out.b.mono HLr.out.bl.size)).mono HW4.out.size)⟩
                            · subst e
                              go_wp2_with (first | (refine wpList_load_mid rfl 37 (.tmp 64) rfl g5 (o5 + 4 * 32) rfl (bytV di) _ Hrg.out Tryd.underlying37 rfl (by rw [bytV_len, Hdl.out]; kernel_rfl) ?_) | (refine wpList_store_rowTo rfl 37 (.tmp 15) (.tmp 65) rfl rfl wr.heap.size (bytV di).toArray rfl rfl 37 _ (heap_alloc_new wr _) (id_size Hdl.out) (by rw [Hds.out]; rfl) (id_one _) ?_; refine box_absL (boxL_made wr _ 37 (bytV di)) ?_; intro wu hbx; have HBu := Lib.hid hbx; have HBv := Lib.hid (HBr.out.below hbx.b); have HLu0 := Lib.hid (HBk.out.trans (hbx.b.mono HBk.out.size)); clear hbx) | (refine wpList_load_mid rfl 37 (.tmp 15) rfl wr.heap.size 0 rfl (bytV di) _ (fun j y hj => by rw [Nat.zero_add]; exact HBu.out.r j y hj) Tryd.underlying37 rfl (by rw [bytV_len, Hdl.out]; kernel_rfl) ?_) | (refine wpList_load_mid rfl 37 (.tmp 13) rfl S5.heap.size 0 rfl (bytV d2) _ (fun j y hj => by rw [Nat.zero_add]; exact HBv.out.r j y hj) Tryd.underlying37 rfl (by rw [bytV_len, Hl_d2.out]; kernel_rfl) ?_))
                              go_ret
                              exact ⟨rfl, HW4.out.trans ((HLr.out.bl.trans (HBu.out.b.mono HLr.out.bl.size)).mono HW4.out.size)⟩
                          · have heq : ∀ w1, (Op.equalIn 10000 37 (.agg (bytV di).toArray) (.agg (bytV d2).toArray)).run Tryd.prog w1 = .ok false w1 := fun w1 => by rw [heq0 w1, decide_eq_false he]
                            have Hne := Lib.hid he
                            clear heq0 he
                            go_wp2_with (first | (refine wpList_load_mid rfl 37 (.tmp 64) rfl g5 (o5 + i * 32) rfl (bytV di) _ Hrg.out Tryd.underlying37 rfl (by rw [bytV_len, Hdl.out]; kernel_rfl) ?_) | (refine wpList_store_rowTo rfl 37 (.tmp 15) (.tmp 65) rfl rfl wr.heap.size (bytV di).toArray rfl rfl 37 _ (heap_alloc_new wr _) (id_size Hdl.out) (by rw [Hds.out]; rfl) (id_one _) ?_; refine box_absL (boxL_made wr _ 37 (bytV di)) ?_; intro wu hbx; have HBu := Lib.hid hbx; have HBv := Lib.hid (HBr.out.below hbx.b); have HLu0 := Lib.hid (HBk.out.trans (hbx.b.mono HBk.out.size)); clear hbx) | (refine wpList_load_mid rfl 37 (.tmp 15) rfl wr.heap.size 0 rfl (bytV di) _ (fun j y hj => by rw [Nat.zero_add]; exact HBu.out.r j y hj) Tryd.underlying37 rfl (by rw [bytV_len, Hdl.out]; kernel_rfl) ?_) | (refine wpList_load_mid rfl 37 (.tmp 13) rfl S5.heap.size 0 rfl (bytV d2) _ (fun j y hj => by rw [Nat.zero_add]; exact HBv.out.r j y hj) Tryd.underlying37 rfl (by rw [bytV_len, Hl_d2.out]; kernel_rfl) ?_))
                            go_roundg (gk - 1)
                            case measure => omega
                            case rel => exact ⟨i + 1, by omega, by go_num, HLu0.out, fun k hk h => by
                              rcases (by omega : k < i ∨ k = i) with hk2 | rfl
                              · exact HN.out k hk2 h
                              · intro e2; exact absurd (Hdi.out.trans e2) Hne.out⟩
                        · obtain rfl : i = 5 := by omega
                          have hltI : ¬ ((5 : Nat) : Int) < 5 := by decide
                          have N5 := Lib.hid HN.out
                          have hbl : (bytV d2).length = 32 := by rw [bytV_len]; exact Hl_d2.out
                          go_wp2_with (first | (refine wpList_load_mid rfl 37 (.tmp 13) rfl S5.heap.size 0 rfl (bytV d2) _ (fun j y hj => by rw [Nat.zero_add]; exact HBr.out.r j y hj) Tryd.underlying37 rfl (by rw [bytV_len, Hl_d2.out]; kernel_rfl) ?_) | (at_builtin; go_must (refine wpList_append_gen eltI rfl (.tmp 83) (.tmp 85) rfl rfl w4.heap.size _ [d0, d1, d2, d0, d1] rfl (HLr.out.below ((Below.refl _ _).alloc (Nat.le_refl _) _)).ow _ [d2] (LAt.block (by rw [bytV_len]; exact Hl_d2.out) (fold_all (bytV d2) #[.int .u8 0, .int .u8 0, .int .u8 0, .int .u8 0, .int .u8 0, .int .u8 0, .int .u8 0, .int .u8 0, .int .u8 0, .int .u8 0, .int .u8 0, .int .u8 0, .int .u8 0, .int .u8 0, .int .u8 0, .int .u8 0, .int .u8 0, .int .u8 0, .int .u8 0, .int .u8 0, .int .u8 0, .int .u8 0, .int .u8 0, .int .u8 0, .int .u8 0, .int .u8 0, .int .u8 0, .int .u8 0, .int .u8 0, .int .u8 0, .int .u8 0, .int .u8 0] (by rw [bytV_len, Hl_d2.out]; rfl)) (heap_alloc_new wr _)) rfl (by simp only [List.length_cons, List.length_nil]; omega) (by unfold maxLen; simp only [List.length_cons, List.length_nil]; omega) (by have := HLr.out.bl.size; simp; omega) ?_); intro va w5 ho5 hg5; have HLn := Lib.hid ((HLr.out.below ((Below.refl _ _).alloc (Nat.le_refl _) _)).put ho5 hg5); clear ho5 hg5))
                          replace HL := HLn
                          clear HLr HBr HBk HB HN HLn hbl
                          obtain ⟨pp, pc6, rfl⟩ := own_slice' (n := 6) HL.out.ow
                          have HLen := Lib.hid (lens_at (L := [d0, d1, d2, d0, d1, d2]) (by
                            intro y hy
                            simp only [List.mem_cons, List.not_mem_nil, or_false] at hy
                            rcases hy with h | h | h | h | h | h
                            · rw [h]; exact Hl_d0.out
                            · rw [h]; exact Hl_d1.out
                            · rw [h]; exact Hl_d2.out
                            · rw [h]; exact Hl_d0.out
                            · rw [h]; exact Hl_d1.out
                            · rw [h]; exact Hl_d2.out))
                          obtain ⟨g6, o6, rfl, hcap6, hmax6⟩ := row_at (n := 6) rfl HLen.out HL.out.ow (by decide)
                          rw [rounds_succ]
                          go_wp2_with fail
                          rw [rounds_succ]
                          go_wp2_with fail
                          have q0 := same37 d0 Hl_d0.out
                          have q1 := same37 d1 Hl_d1.out
                          have q2 := same37 d2 Hl_d2.out
                          have q01 := other37 d0 d1 Hl_d0.out Hl_d1.out (fun e => absurd (N4.out 0 (by decide) (by simp) e) (by decide))
                          have q12 := other37 d1 d2 Hl_d1.out Hl_d2.out (fun e => absurd (N5.out 1 (by decide) (by simp) e) (by decide))
                          have q20 := other37 d2 d0 Hl_d2.out Hl_d0.out (fun e => absurd (N3.out 2 (by decide) (by simp) e) (by decide))
                          have HX9 := Lib.hid (HX4.out.below HL.out.bl)
                          have HW9 := Lib.hid (HW4.out.trans (HL.out.bl.mono HW4.out.size))
                          have C30 := Lib.hid (DB30.out.cls HW9.out)
                          have C31 := Lib.hid (DB31.out.cls HW9.out)
                          have C32 := Lib.hid (DB32.out.cls HW9.out)
                          have LX0 := Lib.hid (fun w1 (h1 : Below w5.heap.size w5 w1) => load_r37 (d := d0) (HX9.out.below h1).a1 Hl_d0.out)
                          have LX1 := Lib.hid (fun w1 (h1 : Below w5.heap.size w5 w1) => load_r37 (d := d1) (HX9.out.below h1).a2 Hl_d1.out)
                          have LX2 := Lib.hid (fun w1 (h1 : Below w5.heap.size w5 w1) => load_r37 (d := d2) (HX9.out.below h1).a3 Hl_d2.out)
                          clear N0 N1 N2 N3 N4 N5 HLen
                          refine wp_region_class (Below w5.heap.size w5) (by kernel_rfl) (by kernel_rfl) (Below.refl _ _).drew ?_
                          repeat (go_big_quiet_step (first | (intro hh; with_reducible exact C30.out _ hh) | (intro hh; with_reducible exact C31.out _ hh) | (intro hh; with_reducible exact C32.out _ hh) | (intro _; rfl)))
                          refine wpQuiet_load_at rfl 37 (.tmp 5) rfl ⟨w3.heap.size, 0, none⟩ rfl (.agg (bytV d0).toArray) LX0.out ?_
                          simp only [Act.put, List.setIfInBounds_toArray, List.set_cons_succ, List.set_cons_zero]
                          repeat (go_big_quiet_step (first | (intro hh; with_reducible exact C30.out _ hh) | (intro hh; with_reducible exact C31.out _ hh) | (intro hh; with_reducible exact C32.out _ hh) | (intro _; rfl)))
                          refine wpQuiet_load_at (by simp [Region.wanted, yielded, Act.put]) 37 (.tmp 6) rfl ⟨w3.heap.size + 1, 0, none⟩ rfl (.agg (bytV d1).toArray) LX1.out ?_
                          simp only [Act.put, List.setIfInBounds_toArray, List.set_cons_succ, List.set_cons_zero]
                          repeat (go_big_quiet_step (first | (intro hh; with_reducible exact C30.out _ hh) | (intro hh; with_reducible exact C31.out _ hh) | (intro hh; with_reducible exact C32.out _ hh) | (intro _; rfl)))
                          refine wpQuiet_load_at (by simp [Region.wanted, yielded, Act.put]) 37 (.tmp 7) rfl ⟨w3.heap.size + 2, 0, none⟩ rfl (.agg (bytV d2).toArray) LX2.out ?_
                          simp only [Act.put, List.setIfInBounds_toArray, List.set_cons_succ, List.set_cons_zero]
                          repeat (go_big_quiet_step (first | (intro hh; with_reducible exact C30.out _ hh) | (intro hh; with_reducible exact C31.out _ hh) | (intro hh; with_reducible exact C32.out _ hh) | (intro _; rfl)))
                          refine wpQuiet_load_at (by simp [Region.wanted, yielded, Act.put]) 37 (.tmp 5) rfl ⟨w3.heap.size, 0, none⟩ rfl (.agg (bytV d0).toArray) LX0.out ?_
                          simp only [Act.put, List.setIfInBounds_toArray, List.set_cons_succ, List.set_cons_zero]
                          repeat (go_big_quiet_step (first | (intro hh; with_reducible exact C30.out _ hh) | (intro hh; with_reducible exact C31.out _ hh) | (intro hh; with_reducible exact C32.out _ hh) | (intro _; rfl)))
                          refine wpQuiet_load_at (by simp [Region.wanted, yielded, Act.put]) 37 (.tmp 6) rfl ⟨w3.heap.size + 1, 0, none⟩ rfl (.agg (bytV d1).toArray) LX1.out ?_
                          simp only [Act.put, List.setIfInBounds_toArray, List.set_cons_succ, List.set_cons_zero]
                          repeat (go_big_quiet_step (first | (intro hh; with_reducible exact C30.out _ hh) | (intro hh; with_reducible exact C31.out _ hh) | (intro hh; with_reducible exact C32.out _ hh) | (intro _; rfl)))
                          refine wpQuiet_load_at (by simp [Region.wanted, yielded, Act.put]) 37 (.tmp 7) rfl ⟨w3.heap.size + 2, 0, none⟩ rfl (.agg (bytV d2).toArray) LX2.out ?_
                          simp only [Act.put, List.setIfInBounds_toArray, List.set_cons_succ, List.set_cons_zero]
                          repeat (go_big_quiet_step (first | (intro hh; with_reducible exact C30.out _ hh) | (intro hh; with_reducible exact C31.out _ hh) | (intro hh; with_reducible exact C32.out _ hh) | (intro _; rfl)))
                          refine wpQuiet_nil ?_
                          intro wq hBq
                          go_wp2_with fail
                          go_ret
                          exact ⟨rfl, HW9.out.trans (hBq.mono HW9.out.size)⟩
set_option maxRecDepth 100000 in
set_option maxHeartbeats 4000000 in
theorem names7_any (a b : ByteArray) (w : World) (hM : MaxAt w) (hK : S.KeysAt w) (ha : a.size ≤ 140737488351232) (hb : b.size ≤ 140737488351232) : Calls Tryd.prog 6 #[.string a, .string b] w (LawEnd w) := by
  have HA := Lib.hid (alive7_any w hM)
  by_cases hs : 4096 < a.size + b.size
  · have hsI : (4096 : Int) < (a.size : Int) + (b.size : Int) := by omega
    have hwr : IntKind.i64.wrap ((a.size : Int) + (b.size : Int)) = (a.size : Int) + (b.size : Int) := wrap_in (by omega) (by omega)
    clear hM hK
    go_enter Tryd.func6, Tryd.ntmps6
    go_wp2_with fail
    refine HA.out.mono ?_
    rintro e w0 ⟨rfl, hB0⟩
    go_wp2_with fail
    go_ret
    exact ⟨rfl, hB0⟩
  · by_cases hab : a = b
    · subst hab
      exact names7_eq a (du ⟨#[98, 108, 111, 98]⟩ a) (du ⟨#[116, 114, 101, 101]⟩ a) (du ⟨#[99, 111, 109, 109, 105, 116]⟩ a) w (by omega) (by simp) (Lib.hid (du_len _ _)) (Lib.hid (du_len _ _)) (Lib.hid (du_len _ _)) HA
        (Lib.hid (dig33 w _ a (by decide) (by omega))) (Lib.hid (dig33 w _ a (by decide) (by omega))) (Lib.hid (dig33 w _ a (by decide) (by omega))) (Lib.hid (dig33 w _ a (by decide) (by omega))) (Lib.hid (dig33 w _ a (by decide) (by omega))) (Lib.hid (dig33 w _ a (by decide) (by omega)))
        (Lib.hid (dig30 hK a (by omega))) (Lib.hid (dig31 hK a (by omega))) (Lib.hid (dig32 hK a (by omega)))
    · exact names7_ne a b (du ⟨#[98, 108, 111, 98]⟩ a) (du ⟨#[116, 114, 101, 101]⟩ a) (du ⟨#[99, 111, 109, 109, 105, 116]⟩ a) (du ⟨#[98, 108, 111, 98]⟩ b) (du ⟨#[116, 114, 101, 101]⟩ b) (du ⟨#[99, 111, 109, 109, 105, 116]⟩ b) w (by omega) (beq_of_ne hab) (Lib.hid (du_len _ _)) (Lib.hid (du_len _ _)) (Lib.hid (du_len _ _)) (Lib.hid (du_len _ _)) (Lib.hid (du_len _ _)) (Lib.hid (du_len _ _)) HA
        (Lib.hid (dig33 w _ a (by decide) (by omega))) (Lib.hid (dig33 w _ a (by decide) (by omega))) (Lib.hid (dig33 w _ a (by decide) (by omega))) (Lib.hid (dig33 w _ b (by decide) (by omega))) (Lib.hid (dig33 w _ b (by decide) (by omega))) (Lib.hid (dig33 w _ b (by decide) (by omega)))
        (Lib.hid (dig30 hK a (by omega))) (Lib.hid (dig31 hK a (by omega))) (Lib.hid (dig32 hK a (by omega))) (Lib.hid (dig30 hK b (by omega))) (Lib.hid (dig31 hK b (by omega))) (Lib.hid (dig32 hK b (by omega)))

end Go.Proofs.YtdhaanaenklleaaDoor
