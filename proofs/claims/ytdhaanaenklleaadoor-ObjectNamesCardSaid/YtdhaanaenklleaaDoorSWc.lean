/- Walks: a block's words. -/
import Derived.Test.YtdhaanaenklleaaDoorSWb
import Derived.Test.YtdhaanaenklleaaDoorSMb
import Derived.Laws.CopyOwn
namespace Go.Proofs.YtdhaanaenklleaaDoor.S
set_option linter.unusedVariables false
open Go.ChangeShapes Go.WideShapes Go.ChangeAt Go.RowKit

theorem slice42 (w : World) (pb i : Nat) (h : i < 16) :
    (Instr.sliceAt 155 (.pointer (some ⟨pb, 0, none⟩)) (some (.int .i64 (4 * (i : Int)))) (some (.int .i64 (4 * (i : Int) + 4))) none).run Tryd.prog w
      = .ok (.slice (some ⟨pb, 4 * i, none⟩) 4 (64 - 4 * i)) w := by
  have he : Tryd.prog.arrayLen 155 = 64 := by kernel_rfl
  have hE : Tryd.prog.elem 155 = 5 := by kernel_rfl
  have hz : (sizeOf 5).run Tryd.prog w = .ok 1 w := by simp [go_sem]
  rw [run_sliceAt_array_lh w 155 ⟨pb, 0, none⟩ (by rw [he, hE]; exact Tryd.underlying155) .i64 .i64 _ _ (by omega) (by omega) (by rw [he]; omega), hE, hz, he]
  have e1 : (4 * (i : Int)).toNat = 4 * i := by omega
  have e2 : (4 * (i : Int) + 4).toNat = 4 * i + 4 := by omega
  simp only [Result.andThen_ok, slicedAt, e1, e2]
  rw [if_neg (by omega), show 4 * i + 4 - 4 * i = 4 by omega]
  simp only [Addr.add, Nat.mul_one]
  split <;> simp_all

theorem ss0_bits (x : Nat) (hx : x < 4294967296) : bits .xor .u32 (bits .xor .u32 ((ror x 7 : Nat) : Int) ((ror x 18 : Nat) : Int)) ((x : Int) / 8) = ((ss0 x : Nat) : Int) := by
  have h3 : x / 8 < 4294967296 := Nat.lt_of_le_of_lt (Nat.div_le_self _ _) hx
  rw [show (x : Int) / 8 = ((x / 8 : Nat) : Int) by omega, xor3 _ _ _ (ror32 _ hx) (ror32 _ hx) h3]
  rfl
theorem ss1_bits (x : Nat) (hx : x < 4294967296) : bits .xor .u32 (bits .xor .u32 ((ror x 17 : Nat) : Int) ((ror x 19 : Nat) : Int)) ((x : Int) / 1024) = ((ss1 x : Nat) : Int) := by
  have h3 : x / 1024 < 4294967296 := Nat.lt_of_le_of_lt (Nat.div_le_self _ _) hx
  rw [show (x : Int) / 1024 = ((x / 1024 : Nat) : Int) by omega, xor3 _ _ _ (ror32 _ hx) (ror32 _ hx) h3]
  rfl

set_option maxRecDepth 100000 in
set_option maxHeartbeats 1000000 in
theorem words_any (B : List Nat) (pb t : Nat) (w : World) (hA : Arr w pb t 64 .u8 B) (hs : Small 256 B) :
    Calls Tryd.prog 129 #[.pointer (some ⟨pb, 0, none⟩)] w fun e w' => e = .returned (.agg (ints .u32 (wordsL B))) ∧ Below w.heap.size w w' := by
  have hpb := hA.lt
  have HA := Lib.hid hA
  clear hA
  go_enter Tryd.func129, Tryd.ntmps129
  go_wp2_with fail
  go_loopg [10] 16 (fun g iv wr => ∃ i : Nat, i + g = 16 ∧ iv = .int .i64 i ∧ Arr wr w.heap.size 135 64 .u32 [] ∧ Arr wr (w.heap.size + 1) 135 64 .u32 (pre B i) ∧ Below w.heap.size w wr)
  case atStart =>
    refine ⟨0, by omega, rfl, ?_, ?_, ?_⟩
    · exact arr_zero (heap_alloc2_old _ _ _) rfl
    · exact arr_zero (heap_alloc2_new _ _ _) rfl
    · exact ((Below.refl _ _).alloc (Nat.le_refl _) _).alloc (by simp) _
  case round =>
    obtain ⟨i, hig, rfl, hR, hW, hB⟩ := hrel
    by_cases hlt : i < 16
    · have hltI : (i : Int) < 16 := by omega
      have hsl := slice42 wr pb i hlt
      have HR := Lib.hid hR
      have HW := Lib.hid hW
      clear hR hW
      obtain ⟨gko, rfl⟩ : ∃ g, g = gk := ⟨gk, rfl⟩
      obtain ⟨wo, rfl⟩ : ∃ wo, wo = wr := ⟨wr, rfl⟩
      go_wp2_with fail
      go_loopg [22] 4 (fun g jv wr => ∃ k : Nat, k + g = 4 ∧ jv = .int .i64 k ∧ Arr wr w.heap.size 135 64 .u32 [] ∧ Arr wr (w.heap.size + 1) 135 64 .u32 (pre B i ++ [pw B i k]) ∧ Below w.heap.size w wr)
      case atStart => exact ⟨0, by omega, rfl, HR.out, HW.out.more, hB⟩
      case round =>
        obtain ⟨k, hkg, rfl, hR, hW, hB2⟩ := hrel
        by_cases hk : k < 4
        · have hkI : (k : Int) < 4 := by omega
          have hcb := (HA.out.below hB2).cell (4 * i + k) (by omega)
          have hcw := hW.cell i (by omega)
          have hfw := hW.free i
          rw [getD_snoc, if_pos (pre_len B i)] at hcw
          have hp := pw_lt4 hs i hk
          have hc := hs (4 * i + k)
          have hn := fun v => hW.last (by rw [pre_len]; omega) v
          simp only [pre_len] at hn
          have Hn := Lib.hid hn
          clear hn
          have HR2 := Lib.hid (fun v => hR.other ⟨w.heap.size + 1, i, none⟩ v (by simp))
          obtain ⟨q, hq⟩ : ∃ q, pw B i (k + 1) = q := ⟨_, rfl⟩
          have hq2 : pw B i k * 256 + B.getD (4 * i + k) 0 = q := hq
          have Hq := Lib.hid hq
          have Hq2 := Lib.hid hq2
          clear hq hq2
          generalize pw B i k = p at *
          generalize B.getD (4 * i + k) 0 = c at *
          have hwc := wrap32_small c (by omega)
          have Hor := Lib.hid (or_small p c hp hc)
          clear hW
          go_wp2_with fail
          go_roundg (gk - 1)
          case measure => omega
          case rel => exact ⟨k + 1, by omega, by go_num, HR2.out _, by rw [Hor.out, Hq2.out, Hq.out]; exact Hn.out _, hB2.setCell (by simp) _⟩
        · obtain rfl : k = 4 := by omega
          have hnl : ¬ ((4 : Nat) : Int) < 4 := by omega
          go_wp2_with fail
          go_roundg (gko - 1)
          case measure => omega
          case rel => exact ⟨i + 1, by omega, by go_num, hR, by rw [pre_succ]; exact hW, hB2⟩
    · have hnl : ¬ (i : Int) < 16 := by omega
      obtain rfl : i = 16 := by omega
      go_wp2_with fail
      have HR := Lib.hid hR
      have HW := Lib.hid hW
      clear hR hW
      go_loopg [7] 48 (fun g iv wr => ∃ m : Nat, m + g = 48 ∧ iv = .int .i64 ((m : Int) + 16) ∧ Arr wr w.heap.size 135 64 .u32 [] ∧ Arr wr (w.heap.size + 1) 135 64 .u32 (wext (pre B 16) m) ∧ Below w.heap.size w wr)
      case atStart => exact ⟨0, by omega, rfl, HR.out, HW.out, hB⟩
      case round =>
        obtain ⟨m, hmg, rfl, hR, hW, hB2⟩ := hrel
        by_cases hm : m < 48
        · have hmI : (m : Int) + 16 < 64 := by omega
          obtain ⟨l, hl⟩ : ∃ l, l = wext (pre B 16) m := ⟨_, rfl⟩
          have hll : l.length = m + 16 := by rw [hl, wext_len, pre_len]; omega
          have hsm : Small 4294967296 l := hl ▸ wext_small (pre_small hs 16) m
          rw [← hl] at hW
          have hnx : wnext l = (l.getD m 0 + ss0 (l.getD (m + 1) 0) + l.getD (m + 9) 0 + ss1 (l.getD (m + 14) 0)) % 4294967296 := by
            unfold wnext
            rw [hll, show m + 16 - 16 = m by omega, show m + 16 - 15 = m + 1 by omega, show m + 16 - 7 = m + 9 by omega, show m + 16 - 2 = m + 14 by omega]
          have Hnx := Lib.hid (show wext (pre B 16) (m + 1) = l ++ [(l.getD m 0 + ss0 (l.getD (m + 1) 0) + l.getD (m + 9) 0 + ss1 (l.getD (m + 14) 0)) % 4294967296] by rw [← hnx, hl]; rfl)
          have c0 := hW.cell m (by omega)
          have c1 := hW.cell (m + 1) (by omega)
          have c9 := hW.cell (m + 9) (by omega)
          have c14 := hW.cell (m + 14) (by omega)
          have cN := hW.cell (m + 16) (by omega)
          have fz := hW.free (m + 16)
          have hwl := hW.lt
          have hn := fun v => hW.snoc (by omega) v
          rw [hll] at hn
          have b0 := hsm m
          have b1 := hsm (m + 1)
          have b9 := hsm (m + 9)
          have b14 := hsm (m + 14)
          clear hnx hl
          generalize l.getD m 0 = x0 at *
          generalize l.getD (m + 1) 0 = x1 at *
          generalize l.getD (m + 9) 0 = x9 at *
          generalize l.getD (m + 14) 0 = x14 at *
          have HC0 := Lib.hid (fun w1 (hB1 : Below wr.heap.size wr w1) => (hB1.cell (p := ⟨w.heap.size + 1, m, none⟩) hwl).trans c0)
          have HC1 := Lib.hid (fun w1 (hB1 : Below wr.heap.size wr w1) => (hB1.cell (p := ⟨w.heap.size + 1, m + 1, none⟩) hwl).trans c1)
          have HC9 := Lib.hid (fun w1 (hB1 : Below wr.heap.size wr w1) => (hB1.cell (p := ⟨w.heap.size + 1, m + 9, none⟩) hwl).trans c9)
          have HC14 := Lib.hid (fun w1 (hB1 : Below wr.heap.size wr w1) => (hB1.cell (p := ⟨w.heap.size + 1, m + 14, none⟩) hwl).trans c14)
          have HT7 := Lib.hid (fun w1 (hB1 : Below wr.heap.size wr w1) => (turn7 x1 w1 b1).mono (fun e w2 h => (⟨h.1, h.2 ▸ hB1⟩ : e = .returned (.int .u32 ((ror x1 7 : Nat) : Int)) ∧ Below wr.heap.size wr w2)))
          have HT18 := Lib.hid (fun w1 (hB1 : Below wr.heap.size wr w1) => (turn18 x1 w1 b1).mono (fun e w2 h => (⟨h.1, h.2 ▸ hB1⟩ : e = .returned (.int .u32 ((ror x1 18 : Nat) : Int)) ∧ Below wr.heap.size wr w2)))
          have HT17 := Lib.hid (fun w1 (hB1 : Below wr.heap.size wr w1) => (turn17 x14 w1 b14).mono (fun e w2 h => (⟨h.1, h.2 ▸ hB1⟩ : e = .returned (.int .u32 ((ror x14 17 : Nat) : Int)) ∧ Below wr.heap.size wr w2)))
          have HT19 := Lib.hid (fun w1 (hB1 : Below wr.heap.size wr w1) => (turn19 x14 w1 b14).mono (fun e w2 h => (⟨h.1, h.2 ▸ hB1⟩ : e = .returned (.int .u32 ((ror x14 19 : Nat) : Int)) ∧ Below wr.heap.size wr w2)))
          have HCN := Lib.hid (fun w1 (hB1 : Below wr.heap.size wr w1) => (hB1.cell (p := ⟨w.heap.size + 1, m + 16, none⟩) hwl).trans cN)
          have HF := Lib.hid (fun w1 (hB1 : Below wr.heap.size wr w1) => (hB1.frozen (p := ⟨w.heap.size + 1, m + 16, none⟩) hwl).trans fz)
          have HS0 := Lib.hid (ss0_bits x1 b1)
          have HS1 := Lib.hid (ss1_bits x14 b14)
          have HN := Lib.hid (fun w1 (hB1 : Below wr.heap.size wr w1) v => (by have h1 := (hW.heap (w' := w1) (hB1.block _ hwl)).snoc (by omega) v; rw [hll] at h1; exact h1 : Arr (w1.setCell ⟨w.heap.size + 1, m + 16, none⟩ (.int .u32 ((v : Nat) : Int))) (w.heap.size + 1) 135 64 .u32 (l ++ [v])))
          have HR2 := Lib.hid (fun w1 (hB1 : Below wr.heap.size wr w1) v => (hR.heap (w' := w1) (hB1.block _ hR.lt)).other ⟨w.heap.size + 1, m + 16, none⟩ v (by simp))
          have HB3 := Lib.hid (fun w1 (hB1 : Below wr.heap.size wr w1) => hB2.trans (hB1.mono hB2.size))
          clear c0 c1 c9 c14 cN fz hn
          go_wp2_with fail
          refine wp_region_class (Below wr.heap.size wr) (by kernel_rfl) (by kernel_rfl) (Below.refl _ _).drew ?_
          repeat (go_big_quiet_step (first | (intro _; rfl) | (intro hq; rw [HC1.out _ hq]; exact ⟨rfl, rfl⟩) | (intro hq; exact HT7.out _ hq) | (intro hq; exact HT18.out _ hq)))
          refine wpQuiet_nil ?_
          intro wq hBq
          rw [HS0.out]
          generalize ss0 x1 = s0 at *
          go_wp2_with fail
          refine wp_region_class (Below wr.heap.size wr) (by kernel_rfl) (by kernel_rfl) hBq.drew ?_
          repeat (go_big_quiet_step (first | (intro _; rfl) | (intro hq; rw [HC14.out _ hq]; exact ⟨rfl, rfl⟩) | (intro hq; exact HT17.out _ hq) | (intro hq; exact HT19.out _ hq)))
          refine wpQuiet_nil ?_
          clear hBq
          clear wq
          intro wq hBq
          rw [HS1.out]
          generalize ss1 x14 = s1 at *
          go_wp2_with fail
          refine wp_region_class_tail (Below wr.heap.size wr) 15 (by kernel_rfl) (by kernel_rfl) hBq.drew ?_
          simp only [List.take_succ_cons, List.take_zero, List.drop_succ_cons, List.drop_zero]
          repeat (go_big_quiet_step (first | (intro _; rfl) | (intro hq; rw [HC0.out _ hq]; exact ⟨rfl, rfl⟩) | (intro hq; rw [HC9.out _ hq]; exact ⟨rfl, rfl⟩)))
          refine wpQuiet_nil ?_
          clear hBq
          clear wq
          intro wq hBq
          have k1 := HCN.out _ hBq
          have k2 := HF.out _ hBq
          go_wp2_with fail
          go_roundg (gk - 1)
          case measure => omega
          case rel => exact ⟨m + 1, by omega, by go_num, HR2.out _ hBq _, by rw [Hnx.out, show ((x0 : Int) + s0 + x9 + s1) % 4294967296 = (((x0 + s0 + x9 + s1) % 4294967296 : Nat) : Int) by omega]; exact HN.out _ hBq _, (HB3.out _ hBq).setCell (by simp) _⟩
        · have hnl : ¬ (m : Int) + 16 < 64 := by omega
          obtain rfl : m = 48 := by omega
          have hwh := hW.whole (wordsL_len B)
          obtain ⟨old, ho1, ho2, _⟩ := hR
          have HB := Lib.hid hB2
          have Hwh := Lib.hid hwh
          have Ho1 := Lib.hid ho1
          clear hB2 hW hwh ho1
          have hz48 : (Tryd.prog.info? 135).map (·.size) = some (ints .u32 (wordsL B)).size := by
            rw [ints_size, wordsL_len]; kernel_rfl
          have Hz := Lib.hid hz48
          clear hz48
          have ho3 : old.size = (ints .u32 (wordsL B)).size := by rw [ints_size, wordsL_len, ho2]
          have Ho3 := Lib.hid ho3
          clear ho3 ho2
          go_wp2_with (first
            | (refine wpList_load_row rfl 135 _ rfl (w.heap.size + 1) rfl 135 (ints .u32 (wordsL B)) (0, 0) _ Hwh.out Tryd.underlying135 rfl Hz.out ?_)
            | (refine wpList_store_rowTo rfl 135 _ _ rfl rfl w.heap.size (ints .u32 (wordsL B)) rfl rfl 135 _ Ho1.out Hz.out Ho3.out (ints_one _ _) ?_))
          refine bodyPost_ret (v := .agg (ints .u32 (wordsL B))) (results_cell_row (fr := (0, 0)) rfl _ _ w.heap.size 135 _ _ rfl (setRow_heap _ _ _ _ _ _ Ho1.out) Tryd.underlying135 rfl Hz.out) rfl ⟨rfl, below_setRow HB.out (Nat.le_refl _) _⟩
end Go.Proofs.YtdhaanaenklleaaDoor.S
