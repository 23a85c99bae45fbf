/- Walks: whether a list is odd. -/
import Derived.Test.YtdhaanaenklleaaDoorEe
import Derived.Great.BuildSlice
import Derived.Laws.CopyOwn
namespace Go.Proofs.YtdhaanaenklleaaDoor
set_option linter.unusedVariables false
set_option linter.unusedSimpArgs false
open Go.ChangeShapes Go.WideShapes Go.ChangeAt Go.RowKit

def sumL : List Inp → Nat | [] => 0 | f :: r => f.1.size + sumL r
theorem sumL_app (a b : List Inp) : sumL (a ++ b) = sumL a + sumL b := by
  induction a with
  | nil => simp [sumL]
  | cons f r ih => simp only [List.cons_append, sumL, ih]; omega
theorem sumL_mem {a : List Inp} {x : Inp} (h : x ∈ a) : x.1.size ≤ sumL a := by
  induction a with
  | nil => cases h
  | cons f r ih =>
    simp only [sumL]
    rcases List.mem_cons.1 h with rfl | h
    · omega
    · have := ih h; omega
theorem sumL_next {a : List Inp} {k : Nat} (h : k < a.length) : sumL (a.take (k + 1)) = sumL (a.take k) + a[k].1.size := by
  rw [List.take_succ_eq_append_getElem h, sumL_app]; simp [sumL]
theorem sumL_le (a : List Inp) (k : Nat) : sumL (a.take k) ≤ sumL a := by
  have := sumL_app (a.take k) (a.drop k)
  rw [List.take_append_drop] at this
  omega
def oddB (a : List Inp) : Bool := decide (4096 < sumL a) || decide (60 < a.length) || !(risB a)
theorem one_cells (s : ByteArray) (l : List UInt8) : ((Value.string s :: bytV l).toArray).all (·.oneCell') = true := by
  rw [Array.all_eq_true_iff_forall_mem]
  intro x hx
  simp only [List.mem_toArray, List.mem_cons, bytV, List.mem_map] at hx
  rcases hx with rfl | ⟨b, _, rfl⟩ <;> rfl
theorem box_cell (w : World) (old : Array Value) (s : ByteArray) (l : List UInt8) : ((w.alloc (.cells old 113)).setRow w.heap.size (Value.string s :: bytV l).toArray).cell? ⟨w.heap.size, 0, none⟩ = some (.string s) := by
  rw [cell_setRow_same _ _ _ old _ 113 (0, 0) (by show (w.heap.push _)[w.heap.size]? = _; simp)]
  simp
set_option maxRecDepth 100000 in
set_option maxHeartbeats 2000000 in
theorem odd_any (v : Value) (a : List Inp) (w : World) (hv : Rows w 33 inpR v a) :
    Calls Tryd.prog 41 #[v] w fun e w' => e = .returned (.bool (oddB a)) ∧ Below w.heap.size w w' := by
  have HR := Lib.hid (fun (hz : sumL a ≤ 4096) w1 (h1 : Below w.heap.size w w1) => rises_any v a w1 (hv.below h1) (fun x hx => by have := sumL_mem hx; omega))
  obtain ⟨p, cap, rfl, hp⟩ := hv.shape
  have Hp := Lib.hid hp
  obtain ⟨len, hl⟩ : ∃ len, len = a.length := ⟨_, rfl⟩
  rw [← hl] at Hp HR ⊢
  have Ha := Lib.hid hl
  clear hv hp hl
  go_enter Tryd.func41, Tryd.ntmps41
  go_wp2_with fail
  go_loopg [3, 8] len (fun g sv iv wr => ∃ k : Nat, k + g = len ∧ iv = .int .i64 k ∧ sv = .int .i64 (sumL (a.take k) : Nat) ∧ sumL (a.take k) ≤ 4096 ∧ Below w.heap.size w wr)
  case atStart => exact ⟨0, by omega, rfl, rfl, by simp [sumL], Below.refl _ _⟩
  case round =>
    obtain ⟨k, hkg, rfl, rfl, hs, hB⟩ := hrel
    have hB0 := Lib.hid hB
    by_cases hlt : k < len
    · have hltI : (k : Int) < (len : Int) := by omega
      have hka : k < a.length := by have := Ha.out; omega
      obtain ⟨b, off, rfl, hb, hcap, hmax, hcell⟩ := Hp.out (by omega)
      obtain ⟨ecs, he, hl33, hat⟩ := hcell k a[k] (List.getElem?_eq_getElem hka)
      obtain ⟨rfl, hsz, h32⟩ := inp_cells he
      have hnx := sumL_next hka
      have hle := sumL_le a (k + 1)
      have hrg : wr.rangeAt b (off + k * 33) (.string a[k].1 :: bytV a[k].2.1) := fun j z hz => by
        have hj := (List.getElem?_eq_some_iff.1 hz).1
        rw [← hz, ← hat j (by omega)]
        exact hB.cell (p := ⟨b, off + k * 33 + j, none⟩) hb
      have Hrg := Lib.hid hrg
      have hbox := fun old => box_cell wr old a[k].1 a[k].2.1
      have Hone := Lib.hid (one_cells a[k].1 a[k].2.1)
      have hi0 : (Tryd.prog.info? 113).map (·.size) = some 33 := by kernel_rfl
      have Hi1 := Lib.hid (show (Tryd.prog.info? 113).map (·.size) = some (Value.string a[k].1 :: bytV a[k].2.1).length by rw [hi0, hl33])
      have Hi2 := Lib.hid (show (Tryd.prog.info? 113).map (·.size) = some ((Value.string a[k].1 :: bytV a[k].2.1).toArray).size by rw [hi0, List.size_toArray, hl33])
      have Hsz := Lib.hid (show 33 = ((Value.string a[k].1 :: bytV a[k].2.1).toArray).size by rw [List.size_toArray, hl33])
      have Hnx := Lib.hid hnx
      have Hle := Lib.hid hle
      have Hbl := Lib.hid (fun old => below_setRow (hB.alloc hB.size (.cells old 113)) hB.size (Value.string a[k].1 :: bytV a[k].2.1).toArray)
      obtain ⟨S, hS⟩ : ∃ S, S = sumL (a.take k) := ⟨_, rfl⟩
      rw [← hS] at hs Hnx ⊢
      generalize a[k].1 = z at *
      generalize bytV a[k].2.1 = l at *
      unfold maxLen at hmax
      clear hB hcell he hat hnx hle hrg hi0 h32 hl33
      by_cases hbig : 4096 < S + z.size
      · have hbI : (4096 : Int) < (S : Int) + (z.size : Int) := by omega
        go_wp2_with (first | (refine wpList_load_mid rfl 113 (.tmp 10) rfl b (off + k * 33) rfl (.string z :: l) _ Hrg.out Tryd.underlying113 rfl Hi1.out ?_) | (refine wpList_store_rowTo rfl 113 (.tmp 5) (.tmp 11) rfl rfl wr.heap.size (Value.string z :: l).toArray rfl rfl 113 _ (heap_alloc_new wr _) Hi2.out (by rw [← Hsz.out]; rfl) Hone.out ?_))
        go_ret
        refine ⟨?_, Hbl.out _⟩
        have : oddB a = true := by unfold oddB; rw [decide_eq_true (by have := Hnx.out; have := Hle.out; omega)]; rfl
        rw [this]; rfl
      · have hbI : ¬ (4096 : Int) < (S : Int) + (z.size : Int) := by omega
        go_wp2_with (first | (refine wpList_load_mid rfl 113 (.tmp 10) rfl b (off + k * 33) rfl (.string z :: l) _ Hrg.out Tryd.underlying113 rfl Hi1.out ?_) | (refine wpList_store_rowTo rfl 113 (.tmp 5) (.tmp 11) rfl rfl wr.heap.size (Value.string z :: l).toArray rfl rfl 113 _ (heap_alloc_new wr _) Hi2.out (by rw [← Hsz.out]; rfl) Hone.out ?_))
        go_roundg (gk - 1)
        case measure => omega
        case rel => exact ⟨k + 1, by omega, by go_num, by rw [Hnx.out]; go_num, by rw [Hnx.out]; omega, Hbl.out _⟩
    · have hnI : ¬ (k : Int) < (len : Int) := by omega
      have hsa : sumL a ≤ 4096 := by
        rw [List.take_of_length_le (by have := Ha.out; omega)] at hs; exact hs
      have Hsa := Lib.hid hsa
      by_cases h60 : 60 < len
      · have h60I : (60 : Int) < (len : Int) := by omega
        go_wp2_with fail
        go_ret
        refine ⟨?_, hB⟩
        have : oddB a = true := by unfold oddB; rw [decide_eq_true (show 60 < a.length by have := Ha.out; omega)]; simp
        rw [this]; rfl
      · have h60I : ¬ (60 : Int) < (len : Int) := by omega
        have H1 := Lib.hid (HR.out hsa wr hB)
        have Hres : Hid (oddB a = !(risB a)) := Lib.hid (by unfold oddB; rw [decide_eq_false (show ¬ 4096 < sumL a by omega), decide_eq_false (show ¬ 60 < a.length by have := Ha.out; omega)]; rfl)
        clear hsa
        generalize risB a = rb at *
        go_wp2_with fail
        refine H1.out.mono ?_
        rintro e w1 ⟨rfl, hB1⟩
        have hb7 := hB0.out.trans (hB1.mono hB0.out.size)
        go_wp2_with fail
        go_ret
        exact ⟨by rw [Hres.out]; rfl, hb7⟩
end Go.Proofs.YtdhaanaenklleaaDoor
