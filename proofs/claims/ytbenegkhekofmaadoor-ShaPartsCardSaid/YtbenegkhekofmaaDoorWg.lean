/- Walks: a digest in digits. -/
import Derived.Test.YtbenegkhekofmaaDoorWf
import Derived.Lib.SlBytesRow
namespace Go.Proofs.YtbenegkhekofmaaDoor
set_option linter.unusedVariables false
open Go.ChangeShapes Go.WideShapes Go.ChangeAt Go.RowKit

def hd (v : Nat) : Nat := if v < 10 then 48 + v else 87 + v
def digs : ByteArray := ⟨#[48, 49, 50, 51, 52, 53, 54, 55, 56, 57, 97, 98, 99, 100, 101, 102]⟩
def hbyte (D : List Nat) (n : Nat) : Nat := hd (if n % 2 = 0 then D.getD (n / 2) 0 / 16 else D.getD (n / 2) 0 % 16)
def hpre (D : List Nat) (n : Nat) : List Nat := (List.range n).map (hbyte D)
def hexB (D : List Nat) : ByteArray := ⟨((hpre D 64).map Nat.toUInt8).toArray⟩
theorem hd_lt (v : Nat) (h : v < 16) : hd v < 256 := by unfold hd; split <;> omega
theorem hpre_len (D : List Nat) (n : Nat) : (hpre D n).length = n := by simp [hpre]
theorem hpre_succ (D : List Nat) (n : Nat) : hpre D (n + 1) = hpre D n ++ [hbyte D n] := by simp [hpre, List.range_succ]
theorem hbyte0 (D : List Nat) (i : Nat) : hbyte D (2 * i) = hd (D.getD i 0 / 16) := by
  unfold hbyte; rw [show 2 * i / 2 = i by omega, if_pos (by omega)]
theorem hbyte1 (D : List Nat) (i : Nat) : hbyte D (2 * i + 1) = hd (D.getD i 0 % 16) := by
  unfold hbyte; rw [show (2 * i + 1) / 2 = i by omega, if_neg (by omega)]
theorem hbyte_lt {D : List Nat} (h : Small 256 D) (n : Nat) : hbyte D n < 256 := by
  unfold hbyte
  apply hd_lt
  have := h (n / 2)
  split <;> omega
theorem hexB_size (D : List Nat) : (hexB D).size = 64 := by
  show ((hpre D 64).map Nat.toUInt8).toArray.size = 64
  simp [hpre_len]
theorem digs_get (v : Nat) (h : v < digs.size) : (digs[v]'h).toNat = hd v := by
  have hv : v < 16 := h
  have h0 : ∀ v : Fin 16, (digs[v.val]?).map (·.toNat) = some (hd v.val) := by decide
  have h1 := h0 ⟨v, hv⟩
  simp only at h1
  rw [getElem?_pos digs v h] at h1
  simpa using h1
theorem digAt (v : Nat) (hv : v < 16) (w : World) : (Instr.index 9 (.string digs) (.int .u8 (v : Int))).run Tryd.prog w = .ok (.int .u8 ((hd v : Nat) : Int)) w := by
  have h : ∀ v : Fin 16, (digs[v.val]?).map (·.toNat) = some (hd v.val) := by decide
  have h1 := h ⟨v, hv⟩
  simp only at h1
  obtain ⟨b, hb, hbn⟩ := Option.map_eq_some_iff.1 h1
  simp [Instr.index, run_underlying Tryd.underlying9, asIntOf]
  rw [hb]
  simp [hbn]
theorem index24 (l : List Nat) (i : Nat) (hl : l.length = 32) (hi : i < 32) (w : World) : (Instr.index 24 (.agg (ints .u8 l)) (.int .i64 (i : Int))).run Tryd.prog w = .ok (.int .u8 ((l.getD i 0 : Nat) : Int)) w := by
  have hz : (sizeOf 5).run Tryd.prog w = .ok 1 w := by simp [go_sem]
  simp [Instr.index, run_underlying Tryd.underlying24, asIntOf, hz, go_sem]
  rw [if_pos hi, ints_get _ _ _ (by omega)]
  simp
theorem slice42all (w : World) (b : Nat) : (Instr.sliceAt 42 (.pointer (some ⟨b, 0, none⟩)) none none none).run Tryd.prog w = .ok (.slice (some ⟨b, 0, none⟩) 64 64) w := by
  have he : Tryd.prog.arrayLen 42 = 64 := by kernel_rfl
  have hE : Tryd.prog.elem 42 = 5 := by kernel_rfl
  have hz : (sizeOf 5).run Tryd.prog w = .ok 1 w := by simp [go_sem]
  rw [run_sliceAt_array_all w 42 ⟨b, 0, none⟩ (by rw [he, hE]; exact Tryd.underlying42), hE, hz, he]
  simp [slicedAt, Addr.add]
theorem hexB_get (D : List Nat) (hs : Small 256 D) (i : Nat) (hi : i < (hexB D).size) : (hexB D)[i].toNat = (hpre D 64).getD i 0 := by
  have h64 : i < 64 := by rw [hexB_size] at hi; exact hi
  show (((hpre D 64).map Nat.toUInt8).toArray[i]'_).toNat = _
  simp [hpre, h64, List.getD_eq_getElem?_getD]
  have := hbyte_lt hs i
  omega
theorem hex_text {w : World} {b : Nat} {D : List Nat} (hs : Small 256 D) (h : Arr w b 42 64 .u8 (hpre D 64)) : (convert 27 9 (.slice (some ⟨b, 0, none⟩) 64 64)).run Tryd.prog w = .ok (.string (hexB D)) w := by
  have := Lib.run_convert_whole (P := Tryd.prog) w 27 5 9 Tryd.underlying27 Tryd.underlying5 Tryd.underlying9 b 0 (hexB D) (fun i hi => by
    have h64 : i < 64 := by rw [hexB_size] at hi; exact hi
    rw [Nat.zero_add, h.cell i h64, ← hexB_get D hs i hi]) 64
  rwa [hexB_size] at this

theorem row2 (w : World) (c : Array Value) (A : Obj) : ((w.alloc (.cells c 24)).alloc A).heap[w.heap.size]? = some (.cells c 24 (0, 0)) := by
  rw [heap_alloc_old _ _ (by simp), heap_alloc_new]

set_option maxRecDepth 100000 in
set_option maxHeartbeats 1000000 in
theorem hex_any (D : List Nat) (w : World) (hl : D.length = 32) (hs : Small 256 D) :
    Calls Tryd.prog 14 #[.agg (ints .u8 D)] w fun e w' => e = .returned (.string (hexB D)) ∧ Below w.heap.size w w' := by
  have Hl := Lib.hid hl
  have Hz := Lib.hid (show (Tryd.prog.info? 24).map (·.size) = some (ints .u8 D).size by rw [ints_size, hl]; kernel_rfl)
  have Ht := Lib.hid (fun (w1 : World) b (h : Arr w1 b 42 64 .u8 (hpre D 64)) => hex_text hs h)
  generalize hexB D = X at *
  go_enter Tryd.func14, Tryd.ntmps14
  go_wp2_with (first | (refine wpList_load_row rfl 24 _ rfl w.heap.size rfl 24 (ints .u8 D) (0, 0) _ (row2 w _ _) Tryd.underlying24 rfl Hz.out ?_))
  have hst : Arr ((w.alloc (.cells (ints .u8 D) 24)).alloc (.cells (Array.replicate 64 (.int .u8 0)) 42)) (w.heap.size + 1) 42 64 .u8 [] := arr_zero (heap_alloc2_new _ _ _) rfl
  have Hst := Lib.hid hst
  clear hst
  go_loopg [7] 32 (fun g iv wr => ∃ i : Nat, i + g = 32 ∧ iv = .int .i64 i ∧ Arr wr (w.heap.size + 1) 42 64 .u8 (hpre D (2 * i)) ∧ Below w.heap.size w wr)
  case atStart => exact ⟨0, by omega, rfl, Hst.out, ((Below.refl _ _).alloc (Nat.le_refl _) _).alloc (by simp) _⟩
  case round =>
    obtain ⟨i, hig, rfl, hD, hB⟩ := hrel
    by_cases hlt : i < 32
    · have hltI : (i : Int) < 32 := by omega
      have hix := index24 D i Hl.out hlt wr
      have hc := hs i
      have Hb0 := Lib.hid (hbyte0 D i)
      have Hb1 := Lib.hid (hbyte1 D i)
      obtain ⟨c, hce⟩ : ∃ c, D.getD i 0 = c := ⟨_, rfl⟩
      rw [hce] at hix hc Hb0 Hb1
      have d1 : ∀ w1 : World, (Instr.index 9 (.string ⟨#[48, 49, 50, 51, 52, 53, 54, 55, 56, 57, 97, 98, 99, 100, 101, 102]⟩) (.int .u8 ((c : Int) / 16))).run Tryd.prog w1 = .ok (.int .u8 ((hd (c / 16) : Nat) : Int)) w1 := fun w1 => digAt (c / 16) (by omega) w1
      have d2 : ∀ w1 : World, (Instr.index 9 (.string ⟨#[48, 49, 50, 51, 52, 53, 54, 55, 56, 57, 97, 98, 99, 100, 101, 102]⟩) (.int .u8 (bits .and .u8 (c : Int) 15))).run Tryd.prog w1 = .ok (.int .u8 ((hd (c % 16) : Nat) : Int)) w1 := fun w1 => by
        rw [show bits .and .u8 (c : Int) 15 = ((c % 16 : Nat) : Int) by rw [show (15 : Int) = ((15 : Nat) : Int) from rfl, u8_and_nat _ _ (by omega) (by decide), Nat.and_two_pow_sub_one_eq_mod c 4]]
        exact digAt (c % 16) (by omega) w1
      have Hd2 := Lib.hid (show ∀ h : c % 16 < (⟨#[48, 49, 50, 51, 52, 53, 54, 55, 56, 57, 97, 98, 99, 100, 101, 102]⟩ : ByteArray).size, ((⟨#[48, 49, 50, 51, 52, 53, 54, 55, 56, 57, 97, 98, 99, 100, 101, 102]⟩ : ByteArray)[c % 16]'h).toNat = hd (c % 16) from fun h => digs_get (c % 16) h)
      have c1 := hD.cell (2 * i) (by omega)
      have f1 := hD.free (2 * i)
      have hD2 := hD.snoc (by rw [hpre_len]; omega) (hd (c / 16))
      rw [hpre_len, ← Hb0.out, ← hpre_succ] at hD2
      have c2 := hD2.cell (2 * i + 1) (by omega)
      have f2 := hD2.free (2 * i + 1)
      have hD3 := hD2.snoc (by rw [hpre_len]; omega) (hd (c % 16))
      rw [hpre_len, ← Hb1.out, ← hpre_succ] at hD3
      rw [Hb0.out] at c2 f2 hD3
      rw [Hb1.out] at hD3
      have HD3 := Lib.hid hD3
      have HB := Lib.hid hB
      clear hD hD2 hD3 hB hce
      generalize hd (c / 16) = v1 at *
      generalize hd (c % 16) = v2 at *
      go_wp2_with fail
      go_roundg (gk - 1)
      case measure => omega
      case rel => exact ⟨i + 1, by omega, by go_num, (by rw [Hd2.out]; exact HD3.out), (HB.out.setCell (by show w.heap.size ≤ w.heap.size + 1; omega) _).setCell (by show w.heap.size ≤ w.heap.size + 1; omega) _⟩
    · have hnl : ¬ (i : Int) < 32 := by omega
      obtain rfl : i = 32 := by omega
      have hcv := Ht.out wr _ hD
      have hsl := slice42all wr (w.heap.size + 1)
      have HB := Lib.hid hB
      clear hD hB
      go_wp2_with fail
      go_ret
      exact ⟨rfl, HB.out⟩
end Go.Proofs.YtbenegkhekofmaaDoor
