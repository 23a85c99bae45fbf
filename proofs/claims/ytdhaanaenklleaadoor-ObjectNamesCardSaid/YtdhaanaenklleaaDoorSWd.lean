/- Walks: a block is taken into the state. -/
import Derived.Test.YtdhaanaenklleaaDoorSWc
import Derived.Test.YtdhaanaenklleaaDoorSMc
namespace Go.Proofs.YtdhaanaenklleaaDoor.S
set_option linter.unusedVariables false
open Go.ChangeShapes Go.WideShapes Go.ChangeAt Go.RowKit

/-- The block s alone may have turned, of what was there. -/
def But (s : Nat) (w w' : World) : Prop := ∀ i, i < w.heap.size → i ≠ s → w'.heap[i]? = w.heap[i]?

theorem index40 (l : List Nat) (i : Nat) (hl : l.length = 8) (hi : i < 8) (w : World) : (Instr.index 133 (.agg (ints .u32 l)) (.int .i64 (i : Int))).run Tryd.prog w = .ok (.int .u32 ((l.getD i 0 : Nat) : Int)) w := by
  have h1 : 0 ≤ (i : Int) ∧ (i : Int) < ((8 : Nat) : Int) := by omega
  have hz : (sizeOf 132).run Tryd.prog w = .ok 1 w := by simp [go_sem]
  have he : Tryd.prog.elem 133 = 132 := by kernel_rfl
  simp [Instr.index, run_underlying Tryd.underlying133, asIntOf, hz, go_sem]
  rw [if_pos hi, ints_get _ _ _ (by omega)]
  simp

set_option maxRecDepth 100000 in
set_option maxHeartbeats 600000 in
theorem take_any (B : List Nat) (S : St) (base sb pb t : Nat) (w : World) (hA : Arr w pb t 64 .u8 B) (hS : Arr w sb 154 8 .u32 S.list) (hne : pb ≠ sb) (hs : Small 256 B) (hok : S.ok) (hK : KeysAt w) (hb0 : 0 < base) (hbase : base ≤ sb) :
    Calls Tryd.prog 105 #[.pointer (some ⟨sb, 0, none⟩), .pointer (some ⟨pb, 0, none⟩)] w fun e w' => e = .returned (.tuple #[]) ∧ Below base w w' ∧ But sb w w' ∧ Arr w' sb 154 8 .u32 (S.block B).list := by
  have hsb := hS.lt
  have HW := Lib.hid (words_any B pb t w hA hs)
  have HA := Lib.hid hA
  have HS := Lib.hid hS
  have HK := Lib.hid hK
  have hz48 : (Tryd.prog.info? 135).map (·.size) = some (ints .u32 (wordsL B)).size := by
    rw [ints_size, wordsL_len]; kernel_rfl
  have Hz := Lib.hid hz48
  have Hl := Lib.hid (wordsL_len B)
  have Hsm := Lib.hid (wordsL_small hs)
  clear hA hS hK hz48
  go_enter Tryd.func105, Tryd.ntmps105
  go_wp2_with fail
  refine HW.out.mono ?_
  rintro e w1 ⟨rfl, hB1⟩
  have Hblk := Lib.hid (blk_eq S B)
  generalize wordsL B = L at *
  have hold : (Array.replicate 64 (Value.int .u32 0)).size = (ints .u32 L).size := by rw [ints_size, Hl.out, Array.size_replicate]
  have Hold := Lib.hid hold
  clear hold
  have hc1 : Arr (w1.alloc (.cells (ints .u32 L) 135)) w1.heap.size 135 64 .u32 L := arr_ints (heap_alloc_new w1 _) Hl.out
  have hc2 : Below w.heap.size w (w1.alloc (.cells (ints .u32 L) 135)) := hB1.alloc hB1.size _
  have HB1 := Lib.hid hB1
  have hlb : w.heap.size ≤ w1.heap.size := hB1.size
  obtain ⟨w2, hw2⟩ : ∃ w2, w2 = w1.alloc (.cells (ints .u32 L) 135) := ⟨_, rfl⟩
  have hlb2 : w1.heap.size < w2.heap.size := by rw [hw2]; simp
  rw [← hw2] at hc1 hc2
  have HL2 := Lib.hid hc1
  have HB2 := Lib.hid hc2
  have HW2 := Lib.hid hw2
  have HS2 := Lib.hid (HS.out.below hc2)
  have HK2 := Lib.hid (HK.out.below (HK.out.1) hc2)
  clear hc1 hc2 hB1 hw2
  go_wp2_with (refine wpList_store_rowTo rfl 135 _ _ rfl rfl w1.heap.size (ints .u32 L) rfl rfl 135 _ (heap_alloc_new w1 _) Hz.out Hold.out (ints_one _ _) ?_; rw [World.setRow_alloc_new, ← HW2.out])
  clear HW2 HB1 Hold
  have hsb2 := HS2.out.lt
  have HC0 := Lib.hid (fun w3 (h3 : Below w2.heap.size w2 w3) => (h3.cell (p := ⟨sb, 0, none⟩) hsb2).trans (HS2.out.cell 0 (by omega)))
  have HC1 := Lib.hid (fun w3 (h3 : Below w2.heap.size w2 w3) => (h3.cell (p := ⟨sb, 1, none⟩) hsb2).trans (HS2.out.cell 1 (by omega)))
  have HC2 := Lib.hid (fun w3 (h3 : Below w2.heap.size w2 w3) => (h3.cell (p := ⟨sb, 2, none⟩) hsb2).trans (HS2.out.cell 2 (by omega)))
  have HC3 := Lib.hid (fun w3 (h3 : Below w2.heap.size w2 w3) => (h3.cell (p := ⟨sb, 3, none⟩) hsb2).trans (HS2.out.cell 3 (by omega)))
  have HC4 := Lib.hid (fun w3 (h3 : Below w2.heap.size w2 w3) => (h3.cell (p := ⟨sb, 4, none⟩) hsb2).trans (HS2.out.cell 4 (by omega)))
  have HC5 := Lib.hid (fun w3 (h3 : Below w2.heap.size w2 w3) => (h3.cell (p := ⟨sb, 5, none⟩) hsb2).trans (HS2.out.cell 5 (by omega)))
  have HC6 := Lib.hid (fun w3 (h3 : Below w2.heap.size w2 w3) => (h3.cell (p := ⟨sb, 6, none⟩) hsb2).trans (HS2.out.cell 6 (by omega)))
  have HC7 := Lib.hid (fun w3 (h3 : Below w2.heap.size w2 w3) => (h3.cell (p := ⟨sb, 7, none⟩) hsb2).trans (HS2.out.cell 7 (by omega)))
  simp only [St.list, List.getD_cons_zero, List.getD_cons_succ] at HC0 HC1 HC2 HC3 HC4 HC5 HC6 HC7
  refine wp_region_class (Below w2.heap.size w2) (by kernel_rfl) (by kernel_rfl) (Below.refl _ _).drew ?_
  repeat (go_big_quiet_step (first | (intro _; rfl) | (intro hq; rw [HC0.out _ hq]; exact ⟨rfl, rfl⟩) | (intro hq; rw [HC1.out _ hq]; exact ⟨rfl, rfl⟩) | (intro hq; rw [HC2.out _ hq]; exact ⟨rfl, rfl⟩) | (intro hq; rw [HC3.out _ hq]; exact ⟨rfl, rfl⟩) | (intro hq; rw [HC4.out _ hq]; exact ⟨rfl, rfl⟩) | (intro hq; rw [HC5.out _ hq]; exact ⟨rfl, rfl⟩) | (intro hq; rw [HC6.out _ hq]; exact ⟨rfl, rfl⟩) | (intro hq; rw [HC7.out _ hq]; exact ⟨rfl, rfl⟩)))
  refine wpQuiet_nil ?_
  intro w3 hB3
  go_wp2_with fail
  go_loopg [5, 6, 7, 8, 9, 10, 11, 12, 52] 64 (fun n av bv cv dv ev fv gv hv iv wr => ∃ (i : Nat) (s : St), i + n = 64 ∧ iv = .int .i64 i ∧ s = S.rounds L i ∧ av = .int .u32 s.a ∧ bv = .int .u32 s.b ∧ cv = .int .u32 s.c ∧ dv = .int .u32 s.d ∧ ev = .int .u32 s.e ∧ fv = .int .u32 s.f ∧ gv = .int .u32 s.g ∧ hv = .int .u32 s.h ∧ Below w2.heap.size w2 wr)
  case atStart => exact ⟨0, S, by omega, rfl, rfl, rfl, rfl, rfl, rfl, rfl, rfl, rfl, rfl, hB3⟩
  case round =>
    obtain ⟨i, s, hig, rfl, hs, rfl, rfl, rfl, rfl, rfl, rfl, rfl, rfl, hBr⟩ := hrel
    by_cases hlt : i < 64
    · have hltI : (i : Int) < 64 := by omega
      have hsok : s.ok := by rw [hs]; exact St.ok_rounds hok _ _
      have hnext : S.rounds L (i + 1) = s.step (K64.getD i 0) (L.getD i 0) := by rw [hs]; rfl
      obtain ⟨a, b, c, d, e, f, g, z⟩ := s
      obtain ⟨h1, h2, h3, h4, h5, h6, h7, h8⟩ := hsok
      simp only at h1 h2 h3 h4 h5 h6 h7 h8
      simp only
      have cK := (HK2.out.below HK2.out.1 hBr).2 i hlt
      have cL := (HL2.out.below hBr).cell i hlt
      have bK := k64_small i
      have bL := Hsm.out i
      have Hnext := Lib.hid hnext
      have HsE := Lib.hid hs
      clear hnext hs
      generalize K64.getD i 0 = k at *
      generalize L.getD i 0 = x at *
      have HCK := Lib.hid (fun w3 (hw : Below wr.heap.size wr w3) => (hw.cell (p := ⟨0, i, none⟩) (Nat.lt_of_lt_of_le HK2.out.1 hBr.size)).trans cK)
      have HCL := Lib.hid (fun w3 (hw : Below wr.heap.size wr w3) => (hw.cell (p := ⟨w1.heap.size, i, none⟩) (Nat.lt_of_lt_of_le hlb2 hBr.size)).trans cL)
      have HE := Lib.hid (fun w3 (hw : Below wr.heap.size wr w3) => (mixE_any e w3 h5).mono (fun r w4 hh => (⟨hh.1, hh.2 ▸ hw⟩ : r = .returned (.int .u32 ((sb1 e : Nat) : Int)) ∧ Below wr.heap.size wr w4)))
      clear cK cL
      go_wp2_with fail
      refine wp_region_class (Below wr.heap.size wr) (by kernel_rfl) (by kernel_rfl) (Below.refl _ _).drew ?_
      repeat (go_big_quiet_step (first | (intro _; rfl) | (intro hq; rw [HCK.out _ hq]; exact ⟨rfl, rfl⟩) | (intro hq; rw [HCL.out _ hq]; exact ⟨rfl, rfl⟩) | (intro hq; exact HE.out _ hq)))
      refine wpQuiet_nil ?_
      intro wq hBq
      rw [p_bits a b c d e f g z k x h5 h6 h7]
      have Hpe := Lib.hid (rfl : St.p ⟨a, b, c, d, e, f, g, z⟩ k x = St.p ⟨a, b, c, d, e, f, g, z⟩ k x)
      obtain ⟨P, hP⟩ : ∃ P, P = St.p ⟨a, b, c, d, e, f, g, z⟩ k x := ⟨_, rfl⟩
      have hPl : P < 4294967296 := hP ▸ (pq_lt ⟨a, b, c, d, e, f, g, z⟩ k x).1
      rw [← hP]
      have HP := Lib.hid hP
      clear hP
      go_wp2_with fail
      refine (mixA_any a _ h1).mono ?_
      rintro r w4 ⟨rfl, rfl⟩
      go_wp2_with fail
      go_roundg (gk - 1)
      case measure => omega
      case rel => exact ⟨i + 1, St.step ⟨a, b, c, d, e, f, g, z⟩ k x, by omega, by go_num, Hnext.out.symm, by rw [q_bits a b c d e f g z h1 h2 h3, cast_add, HP.out]; rfl, rfl, rfl, rfl, by rw [cast_add, HP.out]; rfl, rfl, rfl, rfl, hBr.trans (hBq.mono hBr.size)⟩
    · have hnl : ¬ (i : Int) < 64 := by omega
      obtain rfl : i = 64 := by omega
      have HbS := Lib.hid hs
      clear hs
      obtain ⟨a, b, c, d, e, f, g, z⟩ := s
      simp only
      have hS3 := HS2.out.below hBr
      have HBr := Lib.hid hBr
      have HsB := Lib.hid (Nat.lt_of_lt_of_le hsb2 hBr.size)
      have hT : (S.plus ⟨a, b, c, d, e, f, g, z⟩).list = (S.block B).list := by rw [HbS.out, Hblk.out]
      obtain ⟨T, hTe⟩ : ∃ T, T = (S.block B).list := ⟨_, rfl⟩
      rw [← hTe] at hT
      have hgT : ∀ j, j < 8 → T.getD j 0 = (S.list.getD j 0 + [a, b, c, d, e, f, g, z].getD j 0) % 4294967296 := fun j hj => by rw [← hT]; exact list_plus_get S _ j hj
      have hTl : T.length = 8 := by rw [← hT, list_len]
      have HTe := Lib.hid hTe
      have HgT := Lib.hid hgT
      clear hBr hT hTe hgT
      go_wp2_with fail
      obtain ⟨wo, hwo⟩ : ∃ wo, wo = wr := ⟨_, rfl⟩
      rw [← hwo] at HBr HsB hS3 ⊢
      have hS4 := Lib.hid hS3
      clear hwo hS3
      go_loopg [112] 8 (fun n iv wr => ∃ i : Nat, i + n = 8 ∧ iv = .int .i64 i ∧ (∃ l, Arr wr sb 154 8 .u32 l ∧ ∀ j, j < 8 → l.getD j 0 = if j < i then T.getD j 0 else S.list.getD j 0) ∧ wo.heap.size ≤ wr.heap.size ∧ Below base wo wr ∧ (∀ j, j < wo.heap.size → j ≠ sb → wr.heap[j]? = wo.heap[j]?))
      case atStart => exact ⟨0, by omega, rfl, ⟨S.list, hS4.out, fun j hj => by simp⟩, Nat.le_refl _, Below.refl _ _, fun _ _ _ => rfl⟩
      case round =>
        obtain ⟨i, hig, rfl, ⟨l, hA, hl⟩, hsz, hBb, hBut⟩ := hrel
        by_cases hlt : i < 8
        · have hix : (Instr.index 133 (.agg #[.int .u32 (a : Int), .int .u32 (b : Int), .int .u32 (c : Int), .int .u32 (d : Int), .int .u32 (e : Int), .int .u32 (f : Int), .int .u32 (g : Int), .int .u32 (z : Int)]) (.int .i64 (i : Int))).run Tryd.prog wr = .ok (.int .u32 (([a, b, c, d, e, f, g, z].getD i 0 : Nat) : Int)) wr := index40 [a, b, c, d, e, f, g, z] i rfl hlt wr
          have hg := HgT.out i hlt
          have hc := hA.cell i hlt
          have hf := hA.free i
          rw [hl i hlt, if_neg (Nat.lt_irrefl i)] at hc
          have hsbr := hA.lt
          have Hn := Lib.hid (fun w3 (h : Below wr.heap.size wr w3) (v : Nat) (l' : List Nat) => (hA.heap (w' := w3) (h.block sb hsbr)).set hlt v l')
          have HCc := Lib.hid (fun w3 (h : Below wr.heap.size wr w3) => (h.cell (p := ⟨sb, i, none⟩) hsbr).trans hc)
          have HF := Lib.hid (fun w3 (h : Below wr.heap.size wr w3) => (h.frozen (p := ⟨sb, i, none⟩) hsbr).trans hf)
          have Hg := Lib.hid hg
          have Hl2 := Lib.hid hl
          have hbr : base ≤ wr.heap.size := by omega
          have HBb := Lib.hid (fun w3 (h : Below wr.heap.size wr w3) v => (hBb.trans (h.mono hbr)).setCell (p := ⟨sb, i, none⟩) hbase v)
          have HBut := Lib.hid (fun w3 (h : Below wr.heap.size wr w3) v j (hj : j < wo.heap.size) (hjs : j ≠ sb) => (heap_setCell_other w3 ⟨sb, i, none⟩ j v hjs).trans ((h.block j (by omega)).trans (hBut j hj hjs)))
          clear hg hl hBut hc hf hA hBb
          generalize [a, b, c, d, e, f, g, z].getD i 0 = y at *
          generalize S.list.getD i 0 = v0 at *
          have hltI : (i : Int) < 8 := by omega
          go_wp2_with fail
          refine wp_region_class_tail (Below wr.heap.size wr) 9 (by kernel_rfl) (by kernel_rfl) (Below.refl _ _).drew ?_
          simp only [List.take_succ_cons, List.take_zero, List.drop_succ_cons, List.drop_zero]
          repeat (go_big_quiet_step (first | (intro _; rfl) | (intro hq; rw [HCc.out _ hq]; exact ⟨rfl, rfl⟩)))
          refine wpQuiet_nil ?_
          intro wq hBq
          have k1 := HCc.out _ hBq
          have k2 := HF.out _ hBq
          go_wp2_with fail
          go_roundg (gk - 1)
          case measure => omega
          case rel =>
            refine ⟨i + 1, by omega, by go_num, ⟨(List.range 8).map (fun j => if j < i + 1 then T.getD j 0 else S.list.getD j 0), ?_, fun j hj => getD_range _ 8 j hj⟩, ?_, HBb.out _ hBq _, HBut.out _ hBq _⟩
            · rw [cast_add, ← Hg.out]
              refine Hn.out _ hBq _ _ fun j hj => ?_
              rw [getD_range _ 8 j hj, Hl2.out j hj]
              by_cases e1 : i = j
              · subst e1; rw [if_pos rfl, if_pos (by omega)]
              · rw [if_neg e1]
                by_cases e2 : j < i
                · rw [if_pos e2, if_pos (by omega)]
                · rw [if_neg e2, if_neg (by omega)]
            · have := hBq.size
              simp [World.setCell]
              omega
        · have hnl : ¬ (i : Int) < 8 := by omega
          obtain rfl : i = 8 := by omega
          have h1 := HB2.out.size
          have h2 := HBr.out.size
          have Hf1 := Lib.hid (((HB2.out.mono (by omega : base ≤ w.heap.size)).trans (HBr.out.mono (by omega))).trans hBb)
          have Hf2 := Lib.hid (fun j (hj : j < w.heap.size) (hjs : j ≠ sb) => (hBut j (by omega) hjs).trans ((HBr.out.block j (by omega)).trans (HB2.out.block j hj)))
          have Hf3 := Lib.hid (hA.congr (l' := T) fun j hj => by rw [hl j hj, if_pos hj])
          clear hBut hA hl
          clear hBb
          go_wp2_with fail
          refine bodyPost_end (v := .tuple #[]) (by simp [results, Tryd.results105]) rfl ⟨rfl, Hf1.out, Hf2.out, ?_⟩
          rw [← HTe.out]
          exact Hf3.out
end Go.Proofs.YtdhaanaenklleaaDoor.S
