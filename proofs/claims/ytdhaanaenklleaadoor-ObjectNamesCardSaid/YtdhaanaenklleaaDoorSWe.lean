/- Walks: the document's state behind a block. -/
import Derived.Test.YtdhaanaenklleaaDoorSWd
namespace Go.Proofs.YtdhaanaenklleaaDoor.S
set_option linter.unusedVariables false
open Go.ChangeShapes Go.WideShapes Go.ChangeAt Go.RowKit

def Base (w wr : World) (SL KK : List Nat) : Prop :=
  Arr wr w.heap.size 133 8 .u32 SL ∧ Arr wr (w.heap.size + 1) 135 64 .u32 KK ∧ Arr wr (w.heap.size + 1 + 1) 133 8 .u32 [] ∧ Below w.heap.size w wr ∧ w.heap.size + 1 + 1 + 1 < wr.heap.size
theorem Base.below {w wr w' : World} {SL KK : List Nat} (h : Base w wr SL KK) (hB : Below wr.heap.size wr w') : Base w w' SL KK := by
  obtain ⟨h1, h2, h3, h4, h5⟩ := h
  exact ⟨h1.below hB, h2.below hB, h3.below hB, h4.trans (hB.mono h4.size), Nat.lt_of_lt_of_le h5 hB.size⟩
theorem Base.set {w wr : World} {SL KK : List Nat} (h : Base w wr SL KK) (i : Nat) (v : Value) : Base w (wr.setCell ⟨w.heap.size + 1 + 1 + 1, i, none⟩ v) SL KK := by
  obtain ⟨h1, h2, h3, h4, h5⟩ := h
  exact ⟨h1.other _ _ (by show w.heap.size ≠ w.heap.size + 1 + 1 + 1; omega), h2.other _ _ (by show w.heap.size + 1 ≠ w.heap.size + 1 + 1 + 1; omega), h3.other _ _ (by show w.heap.size + 1 + 1 ≠ w.heap.size + 1 + 1 + 1; omega), h4.setCell (by show w.heap.size ≤ w.heap.size + 1 + 1 + 1; omega) _, by simp [World.setCell]; omega⟩
theorem Base.start (w : World) (SL KK : List Nat) (h1 : SL.length = 8) (h2 : KK.length = 64) (z8 z64 : Array Value) (hz8 : z8 = Array.replicate 8 (.int .u32 0)) (hz : z64 = Array.replicate 64 (.int .u32 0)) :
    Base w ((((w.alloc (.cells (ints .u32 SL) 133)).alloc (.cells (ints .u32 KK) 135)).alloc (.cells z8 133)).alloc (.cells z64 135)) SL KK ∧
    Arr ((((w.alloc (.cells (ints .u32 SL) 133)).alloc (.cells (ints .u32 KK) 135)).alloc (.cells z8 133)).alloc (.cells z64 135)) (w.heap.size + 1 + 1 + 1) 135 64 .u32 [] := by
  obtain ⟨w1, e1⟩ : ∃ w1, w1 = w.alloc (.cells (ints .u32 SL) 133) := ⟨_, rfl⟩
  obtain ⟨w2, e2⟩ : ∃ w2, w2 = w1.alloc (.cells (ints .u32 KK) 135) := ⟨_, rfl⟩
  obtain ⟨w3, e3⟩ : ∃ w3, w3 = w2.alloc (.cells z8 133) := ⟨_, rfl⟩
  obtain ⟨w4, e4⟩ : ∃ w4, w4 = w3.alloc (.cells z64 135) := ⟨_, rfl⟩
  rw [← e1, ← e2, ← e3, ← e4]
  have s1 : w1.heap.size = w.heap.size + 1 := by rw [e1]; simp
  have s2 : w2.heap.size = w.heap.size + 1 + 1 := by rw [e2]; simp [s1]
  have s3 : w3.heap.size = w.heap.size + 1 + 1 + 1 := by rw [e3]; simp [s2]
  have s4 : w4.heap.size = w.heap.size + 1 + 1 + 1 + 1 := by rw [e4]; simp [s3]
  have b1 : Below w.heap.size w w1 := e1 ▸ (Below.refl _ _).alloc (Nat.le_refl _) _
  have b2 : Below w1.heap.size w1 w2 := e2 ▸ (Below.refl _ _).alloc (Nat.le_refl _) _
  have b3 : Below w2.heap.size w2 w3 := e3 ▸ (Below.refl _ _).alloc (Nat.le_refl _) _
  have b4 : Below w3.heap.size w3 w4 := e4 ▸ (Below.refl _ _).alloc (Nat.le_refl _) _
  have a1 : Arr w1 w.heap.size 133 8 .u32 SL := e1 ▸ arr_ints (heap_alloc_new w _) h1
  have a2 : Arr w2 w1.heap.size 135 64 .u32 KK := e2 ▸ arr_ints (heap_alloc_new w1 _) h2
  have a3 : Arr w3 w2.heap.size 133 8 .u32 [] := e3 ▸ arr_zero (heap_alloc_new w2 _) hz8
  have a4 : Arr w4 w3.heap.size 135 64 .u32 [] := e4 ▸ arr_zero (heap_alloc_new w3 _) hz
  refine ⟨⟨((a1.below b2).below b3).below b4, s1 ▸ (a2.below b3).below b4, s2 ▸ a3.below b4, ?_, by omega⟩, s3 ▸ a4⟩
  exact ((b1.trans (b2.mono (by omega))).trans (b3.mono (by omega))).trans (b4.mono (by omega))
theorem pw4 (B : List Nat) (i : Nat) : pw B i 4 = ((B.getD (4 * i) 0 * 256 + B.getD (4 * i + 1) 0) * 256 + B.getD (4 * i + 2) 0) * 256 + B.getD (4 * i + 3) 0 := by
  simp [pw]

set_option maxRecDepth 100000 in
set_option maxHeartbeats 1000000 in
theorem next_any (B : List Nat) (S : St) (pb off cap : Nat) (w : World) (hA : ∀ j, j < 64 → w.cell? ⟨pb, off + j, none⟩ = some (.int .u8 ((B.getD j 0 : Nat) : Int))) (hpb : pb < w.heap.size) (hs : Small 256 B) (hok : S.ok) :
    Calls Tryd.prog 88 #[.agg (ints .u32 S.list), .slice (some ⟨pb, off, none⟩) 64 cap, .agg (ints .u32 K64)] w fun e w' => e = .returned (.agg (ints .u32 (S.block B).list)) ∧ Below w.heap.size w w' := by
  have HA := Lib.hid (fun w1 (h : Below w.heap.size w w1) j (hj : j < 64) => (h.cell (p := ⟨pb, off + j, none⟩) hpb).trans (hA j hj))
  have Hblk := Lib.hid (blk_eq S B)
  have Hwe := Lib.hid (fun n => wext_small (pre_small hs 16) n)
  obtain ⟨KK, hKK⟩ : ∃ KK, KK = K64 := ⟨_, rfl⟩
  obtain ⟨SL, hSL⟩ : ∃ SL, SL = S.list := ⟨_, rfl⟩
  rw [← hKK, ← hSL]
  have HKl := Lib.hid (show KK.length = 64 by rw [hKK]; rfl)
  have HSl := Lib.hid (show SL.length = 8 by rw [hSL]; rfl)
  have HKK := Lib.hid hKK
  have HSL := Lib.hid hSL
  clear hA hKK hSL
  go_enter Tryd.func88, Tryd.ntmps88
  go_wp2_with fail
  go_loopg [8] 16 (fun g iv wr => ∃ i : Nat, i + g = 16 ∧ iv = .int .i64 i ∧ Base w wr SL KK ∧ Arr wr (w.heap.size + 1 + 1 + 1) 135 64 .u32 (pre B i))
  case atStart =>
    have h := Base.start w SL KK HSl.out HKl.out _ _ rfl rfl
    exact ⟨0, by omega, rfl, h.1, h.2⟩
  case round =>
    obtain ⟨i, hig, rfl, hBs, hW⟩ := hrel
    by_cases hlt : i < 16
    · have hltI : (i : Int) < 16 := by omega
      have c0 := HA.out wr hBs.2.2.2.1 (4 * i) (by omega)
      have c1 := HA.out wr hBs.2.2.2.1 (4 * i + 1) (by omega)
      have c2 := HA.out wr hBs.2.2.2.1 (4 * i + 2) (by omega)
      have c3 := HA.out wr hBs.2.2.2.1 (4 * i + 3) (by omega)
      have d0 := hs (4 * i)
      have d1 := hs (4 * i + 1)
      have d2 := hs (4 * i + 2)
      have d3 := hs (4 * i + 3)
      have Hpw := Lib.hid (pw4 B i)
      have hwl := hW.lt
      have cN := hW.cell i (by omega)
      have fN := hW.free i
      have hpr : pb < wr.heap.size := Nat.lt_of_lt_of_le hpb hBs.2.2.2.1.size
      generalize B.getD (4 * i) 0 = x0 at *
      generalize B.getD (4 * i + 1) 0 = x1 at *
      generalize B.getD (4 * i + 2) 0 = x2 at *
      generalize B.getD (4 * i + 3) 0 = x3 at *
      have HC0 := Lib.hid (fun w3 (h : Below wr.heap.size wr w3) => (h.cell (p := ⟨pb, off + 4 * i, none⟩) hpr).trans c0)
      have HC1 := Lib.hid (fun w3 (h : Below wr.heap.size wr w3) => (h.cell (p := ⟨pb, off + (4 * i + 1), none⟩) hpr).trans c1)
      have HC2 := Lib.hid (fun w3 (h : Below wr.heap.size wr w3) => (h.cell (p := ⟨pb, off + (4 * i + 2), none⟩) hpr).trans c2)
      have HC3 := Lib.hid (fun w3 (h : Below wr.heap.size wr w3) => (h.cell (p := ⟨pb, off + (4 * i + 3), none⟩) hpr).trans c3)
      have HCN := Lib.hid (fun w3 (h : Below wr.heap.size wr w3) => (h.cell (p := ⟨w.heap.size + 1 + 1 + 1, i, none⟩) hwl).trans cN)
      have HF := Lib.hid (fun w3 (h : Below wr.heap.size wr w3) => (h.frozen (p := ⟨w.heap.size + 1 + 1 + 1, i, none⟩) hwl).trans fN)
      have HN := Lib.hid (fun w3 (h : Below wr.heap.size wr w3) (v : Nat) => (by have h1 := (hW.below h).snoc (by rw [pre_len]; omega) v; rw [pre_len] at h1; exact h1 : Arr (w3.setCell ⟨w.heap.size + 1 + 1 + 1, i, none⟩ (.int .u32 (v : Int))) (w.heap.size + 1 + 1 + 1) 135 64 .u32 (pre B i ++ [v])))
      have HBs := Lib.hid (fun w3 (h : Below wr.heap.size wr w3) v => (hBs.below h).set i v)
      clear c0 c1 c2 c3 cN fN hW hBs
      go_wp2_with fail
      refine wp_region_class_tail (Below wr.heap.size wr) 35 (by kernel_rfl) (by kernel_rfl) (Below.refl _ _).drew ?_
      simp only [List.take_succ_cons, List.take_zero, List.drop_succ_cons, List.drop_zero]
      repeat (go_big_quiet_step (first | (intro _; rfl) | (intro hq; rw [HC0.out _ hq]; exact ⟨rfl, rfl⟩) | (intro hq; rw [HC1.out _ hq]; exact ⟨rfl, rfl⟩) | (intro hq; rw [HC2.out _ hq]; exact ⟨rfl, rfl⟩) | (intro hq; rw [HC3.out _ hq]; exact ⟨rfl, rfl⟩)))
      refine wpQuiet_nil ?_
      intro wq hBq
      have k1 := HCN.out _ hBq
      have k2 := HF.out _ hBq
      go_wp2_with fail
      go_roundg (gk - 1)
      case measure => omega
      case rel => exact ⟨i + 1, by omega, by go_num, HBs.out _ hBq _, by rw [pre_succ, Hpw.out, show (x0 : Int) * 16777216 + x1 * 65536 + x2 * 256 + x3 = ((((x0 * 256 + x1) * 256 + x2) * 256 + x3 : Nat) : Int) by omega]; exact HN.out _ hBq _⟩
    · have hnl : ¬ (i : Int) < 16 := by omega
      obtain rfl : i = 16 := by omega
      have HBs0 := Lib.hid hBs
      have HW0 := Lib.hid hW
      clear hBs hW
      go_wp2_with fail
      go_loopg [9] 48 (fun g iv wr => ∃ m : Nat, m + g = 48 ∧ iv = .int .i64 ((m : Int) + 16) ∧ Base w wr SL KK ∧ Arr wr (w.heap.size + 1 + 1 + 1) 135 64 .u32 (wext (pre B 16) m))
      case atStart => exact ⟨0, by omega, rfl, HBs0.out, HW0.out⟩
      case round =>
        obtain ⟨m, hmg, rfl, hBs, hW⟩ := hrel
        by_cases hm : m < 48
        · have hmI : (m : Int) + 16 < 64 := by omega
          obtain ⟨l, hl⟩ : ∃ l, l = wext (pre B 16) m := ⟨_, rfl⟩
          have hll : l.length = m + 16 := by rw [hl, wext_len, pre_len]; omega
          have hsm : Small 4294967296 l := hl ▸ Hwe.out m
          rw [← hl] at hW
          have hnx : wnext l = (l.getD m 0 + ss0 (l.getD (m + 1) 0) + l.getD (m + 9) 0 + ss1 (l.getD (m + 14) 0)) % 4294967296 := by
            unfold wnext
            rw [hll, show m + 16 - 16 = m by omega, show m + 16 - 15 = m + 1 by omega, show m + 16 - 7 = m + 9 by omega, show m + 16 - 2 = m + 14 by omega]
          have Hnx := Lib.hid (show wext (pre B 16) (m + 1) = l ++ [(l.getD m 0 + ss0 (l.getD (m + 1) 0) + l.getD (m + 9) 0 + ss1 (l.getD (m + 14) 0)) % 4294967296] by rw [← hnx, hl]; rfl)
          have c0 := hW.cell m (by omega)
          have c1 := hW.cell (m + 1) (by omega)
          have c9 := hW.cell (m + 9) (by omega)
          have c14 := hW.cell (m + 14) (by omega)
          have cN := hW.cell (m + 16) (by omega)
          have fz := hW.free (m + 16)
          have hwl := hW.lt
          have b0 := hsm m
          have b1 := hsm (m + 1)
          have b9 := hsm (m + 9)
          have b14 := hsm (m + 14)
          clear hnx hl
          generalize l.getD m 0 = x0 at *
          generalize l.getD (m + 1) 0 = x1 at *
          generalize l.getD (m + 9) 0 = x9 at *
          generalize l.getD (m + 14) 0 = x14 at *
          have HC0 := Lib.hid (fun w1 (hB1 : Below wr.heap.size wr w1) => (hB1.cell (p := ⟨w.heap.size + 1 + 1 + 1, m, none⟩) hwl).trans c0)
          have HC1 := Lib.hid (fun w1 (hB1 : Below wr.heap.size wr w1) => (hB1.cell (p := ⟨w.heap.size + 1 + 1 + 1, m + 1, none⟩) hwl).trans c1)
          have HC9 := Lib.hid (fun w1 (hB1 : Below wr.heap.size wr w1) => (hB1.cell (p := ⟨w.heap.size + 1 + 1 + 1, m + 9, none⟩) hwl).trans c9)
          have HC14 := Lib.hid (fun w1 (hB1 : Below wr.heap.size wr w1) => (hB1.cell (p := ⟨w.heap.size + 1 + 1 + 1, m + 14, none⟩) hwl).trans c14)
          have HCN := Lib.hid (fun w1 (hB1 : Below wr.heap.size wr w1) => (hB1.cell (p := ⟨w.heap.size + 1 + 1 + 1, m + 16, none⟩) hwl).trans cN)
          have HF := Lib.hid (fun w1 (hB1 : Below wr.heap.size wr w1) => (hB1.frozen (p := ⟨w.heap.size + 1 + 1 + 1, m + 16, none⟩) hwl).trans fz)
          have HS0 := Lib.hid (ss0_bits x1 b1)
          have HS1 := Lib.hid (ss1_bits x14 b14)
          have HN := Lib.hid (fun w1 (hB1 : Below wr.heap.size wr w1) v => (by have h1 := (hW.below hB1).snoc (by omega) v; rw [hll] at h1; exact h1 : Arr (w1.setCell ⟨w.heap.size + 1 + 1 + 1, m + 16, none⟩ (.int .u32 ((v : Nat) : Int))) (w.heap.size + 1 + 1 + 1) 135 64 .u32 (l ++ [v])))
          have HBs := Lib.hid (fun w1 (hB1 : Below wr.heap.size wr w1) v => (hBs.below hB1).set (m + 16) v)
          clear c0 c1 c9 c14 cN fz hW hBs
          go_wp2_with fail
          refine wp_region_class (Below wr.heap.size wr) (by kernel_rfl) (by kernel_rfl) (Below.refl _ _).drew ?_
          repeat (go_big_quiet_step (first | (intro _; rfl) | (intro hq; rw [HC1.out _ hq]; exact ⟨rfl, rfl⟩) | (intro hq; rw [HC14.out _ hq]; exact ⟨rfl, rfl⟩)))
          refine wpQuiet_nil ?_
          intro wq hBq
          go_wp2_with fail
          refine (dturn7 x1 _ b1).mono ?_
          rintro r1 q1 ⟨rfl, rfl⟩
          go_wp2_with fail
          refine (dturn18 x1 _ b1).mono ?_
          rintro r1 q1 ⟨rfl, rfl⟩
          go_wp2_with fail
          refine (dturn17 x14 _ b14).mono ?_
          rintro r1 q1 ⟨rfl, rfl⟩
          go_wp2_with fail
          refine (dturn19 x14 _ b14).mono ?_
          rintro r1 q1 ⟨rfl, rfl⟩
          go_wp2_with fail
          rw [HS0.out, HS1.out]
          generalize ss0 x1 = s0 at *
          generalize ss1 x14 = s1 at *
          refine wp_region_class_tail (Below wr.heap.size wr) 15 (by kernel_rfl) (by kernel_rfl) hBq.drew ?_
          simp only [List.take_succ_cons, List.take_zero, List.drop_succ_cons, List.drop_zero]
          repeat (go_big_quiet_step (first | (intro _; rfl) | (intro hq; rw [HC0.out _ hq]; exact ⟨rfl, rfl⟩) | (intro hq; rw [HC9.out _ hq]; exact ⟨rfl, rfl⟩)))
          refine wpQuiet_nil ?_
          clear hBq
          intro wq hBq
          have k1 := HCN.out _ hBq
          have k2 := HF.out _ hBq
          go_wp2_with fail
          go_roundg (gk - 1)
          case measure => omega
          case rel => exact ⟨m + 1, by omega, by go_num, HBs.out _ hBq _, by rw [Hnx.out, show ((x0 : Int) + s0 + x9 + s1) % 4294967296 = (((x0 + s0 + x9 + s1) % 4294967296 : Nat) : Int) by omega]; exact HN.out _ hBq _⟩
        · have hnl : ¬ (m : Int) + 16 < 64 := by omega
          obtain rfl : m = 48 := by omega
          have hW2 : Arr wr (w.heap.size + 1 + 1 + 1) 135 64 .u32 (wordsL B) := hW
          have Hsm := Lib.hid (wordsL_small hs)
          generalize wordsL B = L at *
          obtain ⟨w2, hw2⟩ : ∃ w2, w2 = wr := ⟨_, rfl⟩
          rw [← hw2] at hW2 hBs ⊢
          clear hW hw2
          have HL2 := Lib.hid hW2
          have hS2 := hBs.1
          have hK2 := hBs.2.1
          rw [HSL.out] at hS2
          rw [HKK.out] at hK2
          have HS2 := Lib.hid hS2
          have HK2 := Lib.hid hK2
          have hsb2 := hS2.lt
          have hkb2 := hK2.lt
          have hlb2 := hW2.lt
          obtain ⟨h01, h02, h03, h04, h05⟩ := hBs
          obtain ⟨old, ho1, ho2, _⟩ := h03
          have Ho1 := Lib.hid (fun w3 (h : Below w2.heap.size w2 w3) => (h.block (w.heap.size + 1 + 1) (by omega)).trans ho1)
          have HB4 := Lib.hid h04
          clear h01 h02 h04 hW2 hS2 hK2 ho1
          have HC0 := Lib.hid (fun w3 (h3 : Below w2.heap.size w2 w3) => (h3.cell (p := ⟨w.heap.size, 0, none⟩) hsb2).trans (HS2.out.cell 0 (by omega)))
          have HC1 := Lib.hid (fun w3 (h3 : Below w2.heap.size w2 w3) => (h3.cell (p := ⟨w.heap.size, 1, none⟩) hsb2).trans (HS2.out.cell 1 (by omega)))
          have HC2 := Lib.hid (fun w3 (h3 : Below w2.heap.size w2 w3) => (h3.cell (p := ⟨w.heap.size, 2, none⟩) hsb2).trans (HS2.out.cell 2 (by omega)))
          have HC3 := Lib.hid (fun w3 (h3 : Below w2.heap.size w2 w3) => (h3.cell (p := ⟨w.heap.size, 3, none⟩) hsb2).trans (HS2.out.cell 3 (by omega)))
          have HC4 := Lib.hid (fun w3 (h3 : Below w2.heap.size w2 w3) => (h3.cell (p := ⟨w.heap.size, 4, none⟩) hsb2).trans (HS2.out.cell 4 (by omega)))
          have HC5 := Lib.hid (fun w3 (h3 : Below w2.heap.size w2 w3) => (h3.cell (p := ⟨w.heap.size, 5, none⟩) hsb2).trans (HS2.out.cell 5 (by omega)))
          have HC6 := Lib.hid (fun w3 (h3 : Below w2.heap.size w2 w3) => (h3.cell (p := ⟨w.heap.size, 6, none⟩) hsb2).trans (HS2.out.cell 6 (by omega)))
          have HC7 := Lib.hid (fun w3 (h3 : Below w2.heap.size w2 w3) => (h3.cell (p := ⟨w.heap.size, 7, none⟩) hsb2).trans (HS2.out.cell 7 (by omega)))
          simp only [St.list, List.getD_cons_zero, List.getD_cons_succ] at HC0 HC1 HC2 HC3 HC4 HC5 HC6 HC7
          go_wp2_with fail
          refine wp_region_class (Below w2.heap.size w2) (by kernel_rfl) (by kernel_rfl) (Below.refl _ _).drew ?_
          repeat (go_big_quiet_step (first | (intro _; rfl) | (intro hq; rw [HC0.out _ hq]; exact ⟨rfl, rfl⟩) | (intro hq; rw [HC1.out _ hq]; exact ⟨rfl, rfl⟩) | (intro hq; rw [HC2.out _ hq]; exact ⟨rfl, rfl⟩) | (intro hq; rw [HC3.out _ hq]; exact ⟨rfl, rfl⟩) | (intro hq; rw [HC4.out _ hq]; exact ⟨rfl, rfl⟩) | (intro hq; rw [HC5.out _ hq]; exact ⟨rfl, rfl⟩) | (intro hq; rw [HC6.out _ hq]; exact ⟨rfl, rfl⟩) | (intro hq; rw [HC7.out _ hq]; exact ⟨rfl, rfl⟩)))
          refine wpQuiet_nil ?_
          intro w3 hB3
          go_wp2_with fail
          go_loopg [14, 15, 16, 17, 18, 19, 20, 21, 22] 64 (fun n av bv cv dv ev fv gv hv iv wr => ∃ (i : Nat) (s : St), i + n = 64 ∧ iv = .int .i64 i ∧ s = S.rounds L i ∧ av = .int .u32 s.a ∧ bv = .int .u32 s.b ∧ cv = .int .u32 s.c ∧ dv = .int .u32 s.d ∧ ev = .int .u32 s.e ∧ fv = .int .u32 s.f ∧ gv = .int .u32 s.g ∧ hv = .int .u32 s.h ∧ Below w2.heap.size w2 wr)
          case atStart => exact ⟨0, S, by omega, rfl, rfl, rfl, rfl, rfl, rfl, rfl, rfl, rfl, rfl, hB3⟩
          case round =>
            obtain ⟨i, s, hig, rfl, hs, rfl, rfl, rfl, rfl, rfl, rfl, rfl, rfl, hBr⟩ := hrel
            by_cases hlt : i < 64
            · have hltI : (i : Int) < 64 := by omega
              have hsok : s.ok := by rw [hs]; exact St.ok_rounds hok _ _
              have hnext : S.rounds L (i + 1) = s.step (K64.getD i 0) (L.getD i 0) := by rw [hs]; rfl
              obtain ⟨a, b, c, d, e, f, g, z⟩ := s
              obtain ⟨h1, h2, h3, h4, h5, h6, h7, h8⟩ := hsok
              simp only at h1 h2 h3 h4 h5 h6 h7 h8
              simp only
              have cK := (HK2.out.below hBr).cell i hlt
              have cL := (HL2.out.below hBr).cell i hlt
              have bK := k64_small i
              have bL := Hsm.out i
              have Hnext := Lib.hid hnext
              have HsE := Lib.hid hs
              clear hnext hs
              generalize K64.getD i 0 = k at *
              generalize L.getD i 0 = x at *
              have HCK := Lib.hid (fun w3 (hw : Below wr.heap.size wr w3) => (hw.cell (p := ⟨w.heap.size + 1, i, none⟩) (Nat.lt_of_lt_of_le hkb2 hBr.size)).trans cK)
              have HCL := Lib.hid (fun w3 (hw : Below wr.heap.size wr w3) => (hw.cell (p := ⟨w.heap.size + 1 + 1 + 1, i, none⟩) (Nat.lt_of_lt_of_le hlb2 hBr.size)).trans cL)
              have HE := Lib.hid (fun w3 (hw : Below wr.heap.size wr w3) => (three_mixE e w3 h5).mono (fun r w4 hh => (⟨hh.1, hh.2 ▸ hw⟩ : r = .returned (.int .u32 ((sb1 e : Nat) : Int)) ∧ Below wr.heap.size wr w4)))
              clear cK cL
              go_wp2_with fail
              refine wp_region_class (Below wr.heap.size wr) (by kernel_rfl) (by kernel_rfl) (Below.refl _ _).drew ?_
              repeat (go_big_quiet_step (first | (intro _; rfl) | (intro hq; rw [HCK.out _ hq]; exact ⟨rfl, rfl⟩) | (intro hq; rw [HCL.out _ hq]; exact ⟨rfl, rfl⟩) | (intro hq; exact HE.out _ hq)))
              refine wpQuiet_nil ?_
              intro wq hBq
              rw [p_bits a b c d e f g z k x h5 h6 h7]
              obtain ⟨P, hP⟩ : ∃ P, P = St.p ⟨a, b, c, d, e, f, g, z⟩ k x := ⟨_, rfl⟩
              have hPl : P < 4294967296 := hP ▸ (pq_lt ⟨a, b, c, d, e, f, g, z⟩ k x).1
              rw [← hP]
              have HP := Lib.hid hP
              clear hP
              go_wp2_with fail
              refine (three_mixA a _ h1).mono ?_
              rintro r w4 ⟨rfl, rfl⟩
              go_wp2_with fail
              go_roundg (gk - 1)
              case measure => omega
              case rel => exact ⟨i + 1, St.step ⟨a, b, c, d, e, f, g, z⟩ k x, by omega, by go_num, Hnext.out.symm, by rw [q_bits a b c d e f g z h1 h2 h3, cast_add, HP.out]; rfl, rfl, rfl, rfl, by rw [cast_add, HP.out]; rfl, rfl, rfl, rfl, hBr.trans (hBq.mono hBr.size)⟩
            · have hnl : ¬ (i : Int) < 64 := by omega
              obtain rfl : i = 64 := by omega
              obtain ⟨R, hR⟩ : ∃ R, R = (S.block B).list := ⟨_, rfl⟩
              have hR2 : R = (S.plus s).list := by rw [hR, Hblk.out, hs]
              have HsE := Lib.hid hs
              clear hs
              obtain ⟨a, b, c, d, e, f, g, z⟩ := s
              simp only
              have HEq := Lib.hid (show #[Value.int .u32 (((S.a : Int) + (a : Int)) % 4294967296), Value.int .u32 (((S.b : Int) + (b : Int)) % 4294967296), Value.int .u32 (((S.c : Int) + (c : Int)) % 4294967296), Value.int .u32 (((S.d : Int) + (d : Int)) % 4294967296), Value.int .u32 (((S.e : Int) + (e : Int)) % 4294967296), Value.int .u32 (((S.f : Int) + (f : Int)) % 4294967296), Value.int .u32 (((S.g : Int) + (g : Int)) % 4294967296), Value.int .u32 (((S.h : Int) + (z : Int)) % 4294967296)] = ints .u32 R by
                rw [hR2]; simp only [ints, St.list, St.plus, List.map_cons, List.map_nil, cast_add])
              have hRl : R.length = 8 := by rw [hR2]; rfl
              have Hz := Lib.hid (show (Tryd.prog.info? 133).map (·.size) = some (ints .u32 R).size by rw [ints_size, hRl]; kernel_rfl)
              have Ho3 := Lib.hid (show old.size = (ints .u32 R).size by rw [ints_size, hRl, ho2])
              have HR := Lib.hid hR
              have Ho4 := Lib.hid (Ho1.out wr hBr)
              have Hend := Lib.hid (HB4.out.trans (hBr.mono HB4.out.size))
              have c0 := HC0.out wr hBr
              have c1 := HC1.out wr hBr
              have c2 := HC2.out wr hBr
              have c3 := HC3.out wr hBr
              have c4 := HC4.out wr hBr
              have c5 := HC5.out wr hBr
              have c6 := HC6.out wr hBr
              have c7 := HC7.out wr hBr
              clear hR hR2 hRl ho2 hBr
              go_wp2_with (refine wpList_store_rowTo rfl 133 _ _ rfl rfl (w.heap.size + 1 + 1) (ints .u32 R) rfl (congrArg Value.agg HEq.out) 133 _ Ho4.out Hz.out Ho3.out (ints_one _ _) ?_)
              refine bodyPost_ret (v := .agg (ints .u32 R)) (results_cell_row (fr := (0, 0)) rfl _ _ (w.heap.size + 1 + 1) 133 _ _ rfl (setRow_heap _ _ _ _ _ _ Ho4.out) Tryd.underlying133 rfl Hz.out) rfl ⟨by rw [HR.out], below_setRow Hend.out (by omega) _⟩
end Go.Proofs.YtdhaanaenklleaaDoor.S
