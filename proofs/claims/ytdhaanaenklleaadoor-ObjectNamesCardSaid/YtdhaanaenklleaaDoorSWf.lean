/- Walks: the digest out of a state. -/
import Derived.Test.YtdhaanaenklleaaDoorSWe
namespace Go.Proofs.YtdhaanaenklleaaDoor.S
set_option linter.unusedVariables false
open Go.ChangeShapes Go.WideShapes Go.ChangeAt Go.RowKit

/-- The digest's byte n. -/
def dbyte (H : List Nat) (n : Nat) : Nat := H.getD (n / 4) 0 / 2 ^ (24 - 8 * (n % 4)) % 256
def dpre (H : List Nat) (n : Nat) : List Nat := (List.range n).map (dbyte H)
def digL (H : List Nat) : List Nat := dpre H 32
theorem dpre_len (H : List Nat) (n : Nat) : (dpre H n).length = n := by simp [dpre]
theorem dpre_succ (H : List Nat) (n : Nat) : dpre H (n + 1) = dpre H n ++ [dbyte H n] := by simp [dpre, List.range_succ]
theorem digL_eq (H : List Nat) : dpre H 32 = digL H := rfl
theorem dbyte0 (H : List Nat) (i : Nat) : dbyte H (4 * i + 0) = H.getD i 0 / 16777216 % 256 := by
  unfold dbyte; rw [show (4 * i + 0) / 4 = i by omega, show (4 * i + 0) % 4 = 0 by omega]
theorem dbyte1 (H : List Nat) (i : Nat) : dbyte H (4 * i + 1) = H.getD i 0 / 65536 % 256 := by
  unfold dbyte; rw [show (4 * i + 1) / 4 = i by omega, show (4 * i + 1) % 4 = 1 by omega]
theorem dbyte2 (H : List Nat) (i : Nat) : dbyte H (4 * i + 2) = H.getD i 0 / 256 % 256 := by
  unfold dbyte; rw [show (4 * i + 2) / 4 = i by omega, show (4 * i + 2) % 4 = 2 by omega]
theorem dbyte3 (H : List Nat) (i : Nat) : dbyte H (4 * i + 3) = H.getD i 0 % 256 := by
  unfold dbyte; rw [show (4 * i + 3) / 4 = i by omega, show (4 * i + 3) % 4 = 3 by omega]; simp
theorem wrap_u8_nat (n : Nat) : IntKind.u8.wrap (n : Int) = ((n % 256 : Nat) : Int) := by
  simp [IntKind.wrap, IntKind.bits, IntKind.signed]

theorem index41 (l : List Nat) (i : Nat) (hl : l.length = 8) (hi : i < 8) (w : World) : (Instr.index 154 (.agg (ints .u32 l)) (.int .i64 (i : Int))).run Tryd.prog w = .ok (.int .u32 ((l.getD i 0 : Nat) : Int)) w := by
  have hz : (sizeOf 132).run Tryd.prog w = .ok 1 w := by simp [go_sem]
  simp [Instr.index, run_underlying Tryd.underlying154, asIntOf, hz, go_sem]
  rw [if_pos hi, ints_get _ _ _ (by omega)]
  simp

theorem row3 (w : World) (c : Array Value) (A B : Obj) : (((w.alloc (.cells c 154)).alloc A).alloc B).heap[w.heap.size]? = some (.cells c 154 (0, 0)) := by
  rw [heap_alloc_old _ _ (by simp; omega), heap_alloc_old _ _ (by simp), heap_alloc_new]
theorem dig_start (w : World) (c z : Array Value) (hz : z = Array.replicate 32 (.int .u8 0)) :
    Arr (((w.alloc (.cells c 154)).alloc (.cells z 37)).alloc (.cells z 37)) (w.heap.size + 1) 37 32 .u8 [] ∧ Arr (((w.alloc (.cells c 154)).alloc (.cells z 37)).alloc (.cells z 37)) (w.heap.size + 1 + 1) 37 32 .u8 [] ∧ Below w.heap.size w (((w.alloc (.cells c 154)).alloc (.cells z 37)).alloc (.cells z 37)) := by
  obtain ⟨w1, e1⟩ : ∃ w1, w1 = w.alloc (.cells c 154) := ⟨_, rfl⟩
  have b1 : Below w.heap.size w w1 := e1 ▸ (Below.refl _ _).alloc (Nat.le_refl _) _
  have s1 : w1.heap.size = w.heap.size + 1 := by rw [e1]; simp
  rw [← e1]
  refine ⟨?_, ?_, (b1.alloc (by omega) _).alloc (by simp; omega) _⟩
  · rw [← s1]; exact arr_zero (heap_alloc2_old _ _ _) hz
  · rw [← s1]; exact arr_zero (heap_alloc2_new _ _ _) hz

set_option maxRecDepth 100000 in
set_option maxHeartbeats 1000000 in
theorem digest_any (H : List Nat) (w : World) (hl : H.length = 8) (hs : Small 4294967296 H) :
    Calls Tryd.prog 107 #[.agg (ints .u32 H)] w fun e w' => e = .returned (.agg (ints .u8 (digL H))) ∧ Below w.heap.size w w' := by
  have hz41 : (Tryd.prog.info? 154).map (·.size) = some (ints .u32 H).size := by rw [ints_size, hl]; kernel_rfl
  have Hz := Lib.hid hz41
  have Hl := Lib.hid hl
  have Hz24 := Lib.hid (show (Tryd.prog.info? 37).map (·.size) = some (ints .u8 (digL H)).size by rw [ints_size, digL, dpre_len]; kernel_rfl)
  have Hdl := Lib.hid (show (digL H).length = 32 by rw [digL, dpre_len])
  have Hde := Lib.hid (digL_eq H)
  clear hz41
  generalize digL H = D at *
  go_enter Tryd.func107, Tryd.ntmps107
  go_wp2_with (first | (refine wpList_load_row rfl 154 _ rfl w.heap.size rfl 154 (ints .u32 H) (0, 0) _ (row3 w _ _ _) Tryd.underlying154 rfl Hz.out ?_))
  have hst := dig_start w (ints .u32 H) _ rfl
  have Hst := Lib.hid hst
  clear hst
  go_loopg [8] 8 (fun g iv wr => ∃ i : Nat, i + g = 8 ∧ iv = .int .i64 i ∧ Arr wr (w.heap.size + 1) 37 32 .u8 [] ∧ Arr wr (w.heap.size + 1 + 1) 37 32 .u8 (dpre H (4 * i)) ∧ Below w.heap.size w wr)
  case atStart => exact ⟨0, by omega, rfl, Hst.out.1, Hst.out.2.1, Hst.out.2.2⟩
  case round =>
    obtain ⟨i, hig, rfl, hR, hD, hB⟩ := hrel
    by_cases hlt : i < 8
    · have hltI : (i : Int) < 8 := by omega
      have hix := index41 H i Hl.out hlt wr
      have hx := hs i
      have Hb0 := Lib.hid (dbyte0 H i)
      have Hb1 := Lib.hid (dbyte1 H i)
      have Hb2 := Lib.hid (dbyte2 H i)
      have Hb3 := Lib.hid (dbyte3 H i)
      obtain ⟨x, hxe⟩ : ∃ x, H.getD i 0 = x := ⟨_, rfl⟩
      rw [hxe] at hix hx Hb0 Hb1 Hb2 Hb3
      obtain ⟨gko, rfl⟩ : ∃ g, g = gk := ⟨gk, rfl⟩
      have HR := Lib.hid hR
      have HD := Lib.hid hD
      have HB := Lib.hid hB
      clear hR hD hB
      go_wp2_with fail
      go_loopg [12] 4 (fun g jv wr => ∃ j : Nat, j + g = 4 ∧ jv = .int .i64 j ∧ Arr wr (w.heap.size + 1) 37 32 .u8 [] ∧ Arr wr (w.heap.size + 1 + 1) 37 32 .u8 (dpre H (4 * i + j)) ∧ Below w.heap.size w wr)
      case atStart => exact ⟨0, by omega, rfl, HR.out, HD.out, HB.out⟩
      case round =>
        obtain ⟨j, hjg, rfl, hR, hD, hB⟩ := hrel
        have hj : j = 0 ∨ j = 1 ∨ j = 2 ∨ j = 3 ∨ j = 4 := by omega
        rcases hj with rfl | rfl | rfl | rfl | rfl
        · have c1 := hD.cell (4 * i + 0) (by omega)
          have f1 := hD.free (4 * i + 0)
          have Hn := Lib.hid (fun v => (by have h := hD.snoc (by rw [dpre_len]; omega) v; rw [dpre_len] at h; exact h : Arr (wr.setCell ⟨w.heap.size + 1 + 1, 4 * i + 0, none⟩ (.int .u8 ((v : Nat) : Int))) (w.heap.size + 1 + 1) 37 32 .u8 (dpre H (4 * i + 0) ++ [v])))
          have HR2 := Lib.hid (fun v => hR.other ⟨w.heap.size + 1 + 1, 4 * i + 0, none⟩ v (by simp))
          clear hD hR
          simp only [Nat.add_zero] at c1 f1 Hn HR2
          go_wp2_with fail
          go_roundg (gk - 1)
          case measure => omega
          case rel => exact ⟨0 + 1, by omega, by go_num, HR2.out _, by have e : (x : Int) / 16777216 = ((dbyte H (4 * i + 0) : Nat) : Int) := (by rw [Hb0.out]; omega); rw [dpre_succ, e]; exact Hn.out _, hB.setCell (by show w.heap.size ≤ w.heap.size + 1 + 1; omega) _⟩
        · have c1 := hD.cell (4 * i + 1) (by omega)
          have f1 := hD.free (4 * i + 1)
          have Hn := Lib.hid (fun v => (by have h := hD.snoc (by rw [dpre_len]; omega) v; rw [dpre_len] at h; exact h : Arr (wr.setCell ⟨w.heap.size + 1 + 1, 4 * i + 1, none⟩ (.int .u8 ((v : Nat) : Int))) (w.heap.size + 1 + 1) 37 32 .u8 (dpre H (4 * i + 1) ++ [v])))
          have HR2 := Lib.hid (fun v => hR.other ⟨w.heap.size + 1 + 1, 4 * i + 1, none⟩ v (by simp))
          clear hD hR
          go_wp2_with fail
          go_roundg (gk - 1)
          case measure => omega
          case rel => exact ⟨1 + 1, by omega, by go_num, HR2.out _, by have e : (x : Int) / 65536 % 256 = ((dbyte H (4 * i + 1) : Nat) : Int) := (by rw [Hb1.out]; omega); rw [dpre_succ, e]; exact Hn.out _, hB.setCell (by show w.heap.size ≤ w.heap.size + 1 + 1; omega) _⟩
        · have c1 := hD.cell (4 * i + 2) (by omega)
          have f1 := hD.free (4 * i + 2)
          have Hn := Lib.hid (fun v => (by have h := hD.snoc (by rw [dpre_len]; omega) v; rw [dpre_len] at h; exact h : Arr (wr.setCell ⟨w.heap.size + 1 + 1, 4 * i + 2, none⟩ (.int .u8 ((v : Nat) : Int))) (w.heap.size + 1 + 1) 37 32 .u8 (dpre H (4 * i + 2) ++ [v])))
          have HR2 := Lib.hid (fun v => hR.other ⟨w.heap.size + 1 + 1, 4 * i + 2, none⟩ v (by simp))
          clear hD hR
          go_wp2_with fail
          go_roundg (gk - 1)
          case measure => omega
          case rel => exact ⟨2 + 1, by omega, by go_num, HR2.out _, by have e : (x : Int) / 256 % 256 = ((dbyte H (4 * i + 2) : Nat) : Int) := (by rw [Hb2.out]; omega); rw [dpre_succ, e]; exact Hn.out _, hB.setCell (by show w.heap.size ≤ w.heap.size + 1 + 1; omega) _⟩
        · have c1 := hD.cell (4 * i + 3) (by omega)
          have f1 := hD.free (4 * i + 3)
          have Hn := Lib.hid (fun v => (by have h := hD.snoc (by rw [dpre_len]; omega) v; rw [dpre_len] at h; exact h : Arr (wr.setCell ⟨w.heap.size + 1 + 1, 4 * i + 3, none⟩ (.int .u8 ((v : Nat) : Int))) (w.heap.size + 1 + 1) 37 32 .u8 (dpre H (4 * i + 3) ++ [v])))
          have HR2 := Lib.hid (fun v => hR.other ⟨w.heap.size + 1 + 1, 4 * i + 3, none⟩ v (by simp))
          clear hD hR
          go_wp2_with fail
          go_roundg (gk - 1)
          case measure => omega
          case rel => exact ⟨3 + 1, by omega, by go_num, HR2.out _, by have e : (x : Int) % 256 = ((dbyte H (4 * i + 3) : Nat) : Int) := (by rw [Hb3.out]; omega); rw [dpre_succ, e]; exact Hn.out _, hB.setCell (by show w.heap.size ≤ w.heap.size + 1 + 1; omega) _⟩
        · go_wp2_with fail
          go_roundg (gko - 1)
          case measure => omega
          case rel => exact ⟨i + 1, by omega, by go_num, hR, hD, hB⟩
    · have hnl : ¬ (i : Int) < 8 := by omega
      obtain rfl : i = 8 := by omega
      have hwh := hD.whole (by rw [dpre_len])
      obtain ⟨old, ho1, ho2, _⟩ := hR
      have hwh2 : wr.heap[w.heap.size + 1 + 1]? = some (.cells (ints .u8 D) 37 (0, 0)) := by rw [hwh]; rw [show 4 * 8 = 32 by rfl, Hde.out]
      have Hwh := Lib.hid hwh2
      clear hwh2
      have Ho1 := Lib.hid ho1
      have Ho3 := Lib.hid (show old.size = (ints .u8 D).size by rw [ints_size, Hdl.out, ho2])
      have HB := Lib.hid hB
      clear hB hwh ho1 ho2 hD
      go_wp2_with (first
        | (refine wpList_load_row rfl 37 _ rfl (w.heap.size + 1 + 1) rfl 37 (ints .u8 D) (0, 0) _ Hwh.out Tryd.underlying37 rfl Hz24.out ?_)
        | (refine wpList_store_rowTo rfl 37 _ _ rfl rfl (w.heap.size + 1) (ints .u8 D) rfl rfl 37 _ Ho1.out Hz24.out Ho3.out (ints_one _ _) ?_))
      refine bodyPost_ret (v := .agg (ints .u8 D)) (results_cell_row (fr := (0, 0)) rfl _ _ (w.heap.size + 1) 37 _ _ rfl (setRow_heap _ _ _ _ _ _ Ho1.out) Tryd.underlying37 rfl Hz24.out) rfl ⟨rfl, below_setRow HB.out (by omega) _⟩
end Go.Proofs.YtdhaanaenklleaaDoor.S
