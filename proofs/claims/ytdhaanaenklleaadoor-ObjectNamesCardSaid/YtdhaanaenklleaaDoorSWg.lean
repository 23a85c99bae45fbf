/- Walks: a digest in digits. -/
import Derived.Test.YtdhaanaenklleaaDoorSWf
import Derived.Lib.SlBytesRow
namespace Go.Proofs.YtdhaanaenklleaaDoor.S
set_option linter.unusedVariables false
open Go.ChangeShapes Go.WideShapes Go.ChangeAt Go.RowKit

def hd (v : Nat) : Nat := if v < 10 then 48 + v else 87 + v
def digs : ByteArray := ⟨#[48, 49, 50, 51, 52, 53, 54, 55, 56, 57, 97, 98, 99, 100, 101, 102]⟩
def hbyte (D : List Nat) (n : Nat) : Nat := hd (if n % 2 = 0 then D.getD (n / 2) 0 / 16 else D.getD (n / 2) 0 % 16)
def hpre (D : List Nat) (n : Nat) : List Nat := (List.range n).map (hbyte D)
def hexB (D : List Nat) : ByteArray := ⟨((hpre D 64).map Nat.toUInt8).toArray⟩
theorem hd_lt (v : Nat) (h : v < 16) : hd v < 256 := by unfold hd; split <;> omega
theorem hpre_len (D : List Nat) (n : Nat) : (hpre D n).length = n := by simp [hpre]
theorem hpre_succ (D : List Nat) (n : Nat) : hpre D (n + 1) = hpre D n ++ [hbyte D n] := by simp [hpre, List.range_succ]
theorem hbyte0 (D : List Nat) (i : Nat) : hbyte D (2 * i) = hd (D.getD i 0 / 16) := by
  unfold hbyte; rw [show 2 * i / 2 = i by omega, if_pos (by omega)]
theorem hbyte1 (D : List Nat) (i : Nat) : hbyte D (2 * i + 1) = hd (D.getD i 0 % 16) := by
  unfold hbyte; rw [show (2 * i + 1) / 2 = i by omega, if_neg (by omega)]
theorem hbyte_lt {D : List Nat} (h : Small 256 D) (n : Nat) : hbyte D n < 256 := by
  unfold hbyte
  apply hd_lt
  have := h (n / 2)
  split <;> omega
theorem hexB_size (D : List Nat) : (hexB D).size = 64 := by
  show ((hpre D 64).map Nat.toUInt8).toArray.size = 64
  simp [hpre_len]
theorem digs_get (v : Nat) (h : v < digs.size) : (digs[v]'h).toNat = hd v := by
  have hv : v < 16 := h
  have h0 : ∀ v : Fin 16, (digs[v.val]?).map (·.toNat) = some (hd v.val) := by decide
  have h1 := h0 ⟨v, hv⟩
  simp only at h1
  rw [getElem?_pos digs v h] at h1
  simpa using h1
theorem digAt (v : Nat) (hv : v < 16) (w : World) : (Instr.index 9 (.string digs) (.int .u8 (v : Int))).run Tryd.prog w = .ok (.int .u8 ((hd v : Nat) : Int)) w := by
  have h : ∀ v : Fin 16, (digs[v.val]?).map (·.toNat) = some (hd v.val) := by decide
  have h1 := h ⟨v, hv⟩
  simp only at h1
  obtain ⟨b, hb, hbn⟩ := Option.map_eq_some_iff.1 h1
  simp [Instr.index, run_underlying Tryd.underlying9, asIntOf]
  rw [hb]
  simp [hbn]
theorem index24 (l : List Nat) (i : Nat) (hl : l.length = 32) (hi : i < 32) (w : World) : (Instr.index 37 (.agg (ints .u8 l)) (.int .i64 (i : Int))).run Tryd.prog w = .ok (.int .u8 ((l.getD i 0 : Nat) : Int)) w := by
  have hz : (sizeOf 5).run Tryd.prog w = .ok 1 w := by simp [go_sem]
  simp [Instr.index, run_underlying Tryd.underlying37, asIntOf, hz, go_sem]
  rw [if_pos hi, ints_get _ _ _ (by omega)]
  simp
theorem slice42all (w : World) (b : Nat) : (Instr.sliceAt 155 (.pointer (some ⟨b, 0, none⟩)) none none none).run Tryd.prog w = .ok (.slice (some ⟨b, 0, none⟩) 64 64) w := by
  have he : Tryd.prog.arrayLen 155 = 64 := by kernel_rfl
  have hE : Tryd.prog.elem 155 = 5 := by kernel_rfl
  have hz : (sizeOf 5).run Tryd.prog w = .ok 1 w := by simp [go_sem]
  rw [run_sliceAt_array_all w 155 ⟨b, 0, none⟩ (by rw [he, hE]; exact Tryd.underlying155), hE, hz, he]
  simp [slicedAt, Addr.add]
theorem hexB_get (D : List Nat) (hs : Small 256 D) (i : Nat) (hi : i < (hexB D).size) : (hexB D)[i].toNat = (hpre D 64).getD i 0 := by
  have h64 : i < 64 := by rw [hexB_size] at hi; exact hi
  show (((hpre D 64).map Nat.toUInt8).toArray[i]'_).toNat = _
  simp [hpre, h64, List.getD_eq_getElem?_getD]
  have := hbyte_lt hs i
  omega
theorem hex_text {w : World} {b : Nat} {D : List Nat} (hs : Small 256 D) (h : Arr w b 155 64 .u8 (hpre D 64)) : (convert 59 9 (.slice (some ⟨b, 0, none⟩) 64 64)).run Tryd.prog w = .ok (.string (hexB D)) w := by
  have := Lib.run_convert_whole (P := Tryd.prog) w 59 5 9 Tryd.underlying59 Tryd.underlying5 Tryd.underlying9 b 0 (hexB D) (fun i hi => by
    have h64 : i < 64 := by rw [hexB_size] at hi; exact hi
    rw [Nat.zero_add, h.cell i h64, ← hexB_get D hs i hi]) 64
  rwa [hexB_size] at this

theorem row2 (w : World) (c : Array Value) (A : Obj) : ((w.alloc (.cells c 37)).alloc A).heap[w.heap.size]? = some (.cells c 37 (0, 0)) := by
  rw [heap_alloc_old _ _ (by simp), heap_alloc_new]

end Go.Proofs.YtdhaanaenklleaaDoor.S
