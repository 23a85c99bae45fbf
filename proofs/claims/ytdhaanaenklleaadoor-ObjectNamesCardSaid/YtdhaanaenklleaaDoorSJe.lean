/- Walks: texts are joined. -/
import Derived.Test.YtdhaanaenklleaaDoorSJd
import Derived.Test.YtdhaanaenklleaaDoorSb
namespace Go.Proofs.YtdhaanaenklleaaDoor.S
open Go.ChangeShapes Go.WideShapes Go.ChangeAt Go.RowKit

theorem ownsRow_below {w w' : World} {base : Nat} {e : TypeId} {size : Nat} {v : Value} {n : Nat} {xs : List Value} (h : w.ownsRow base e size v n xs) (hB : Below w.heap.size w w') : w'.ownsRow base e size v n xs :=
  h.kept (row := none) ⟨hB.os, hB.tape, hB.output, hB.size, fun k hk _ => hB.block k hk⟩ (by cases v.ownBlock <;> simp)

theorem builder_below {w w' : World} {T e : TypeId} {B b : Nat} {p : Value} {bs : List Value} (h : Lib.BuilderAt T e B b p bs w) (hB : Below w.heap.size w w') : Lib.BuilderAt T e B b p bs w' := by
  obtain ⟨h1, v, h2, h3, h4⟩ := h
  exact ⟨h1, v, by rw [hB.block _ (lt_of_block h2)]; exact h2, ownsRow_below h3 hB, h4⟩

/-- The bytes of parts, each behind its number. -/
def partsL : List ByteArray → List UInt8 | [] => [] | s :: r => (numB s.size).data.toList ++ s.data.toList ++ partsL r
theorem partsL_append (a b : List ByteArray) : partsL (a ++ b) = partsL a ++ partsL b := by
  induction a with
  | nil => rfl
  | cons s r ih => simp [partsL, ih]
def joinL (ss : List ByteArray) : List UInt8 := (numB ss.length).data.toList ++ partsL ss
def joinB (ss : List ByteArray) : ByteArray := ⟨(joinL ss).toArray⟩

theorem numB_len (x : Nat) : (numB x).data.toList.length = 8 := by simp [numB, strOfNums, numI]
theorem numB_size (x : Nat) : (numB x).size = 8 := by rw [numB, strOfNums_size]; rfl
theorem partsL_len (ss : List ByteArray) : (partsL ss).length = 8 * ss.length + total ss := by
  induction ss with
  | nil => rfl
  | cons s r ih =>
    rw [partsL, List.length_append, List.length_append, numB_len, ih]
    simp [total]; omega
theorem partsL_take (ss : List ByteArray) (k : Nat) (h : k < ss.length) : partsL (ss.take (k + 1)) = partsL (ss.take k) ++ ((numB (ss.getD k ByteArray.empty).size).data.toList ++ (ss.getD k ByteArray.empty).data.toList) := by
  rw [List.take_succ_eq_append_getElem h, partsL_append]
  simp [partsL, List.getD, h]
theorem len_mod (n : Nat) (h : n < 18446744073709551616) : ((n : Int) % 18446744073709551616).toNat = n := by omega
theorem cells_append (a b : List UInt8) : Lib.byteCells a ++ Lib.byteCells b = Lib.byteCells (a ++ b) := by simp [Lib.byteCells]
theorem strCells_eq (s : ByteArray) : Lib.strCells s = Lib.byteCells s.data.toList := rfl

set_option maxRecDepth 100000 in
set_option maxHeartbeats 400000 in
theorem join_any (v : Value) (ss : List ByteArray) (w : World) (hv : Strs w v ss) (hz : total ss ≤ 1099511627776) (hl : ss.length ≤ 1099511627776) :
    Calls Tryd.prog 46 #[v] w fun e w' => e = .returned (.string (joinB ss)) ∧ Below w.heap.size w w' := by
  rcases hv with ⟨⟨pz, cz, rfl⟩, rfl⟩ | ⟨b, off, cap, rfl, hcap, hmax, hb, hcell⟩
  · go_enter Tryd.func46, Tryd.ntmps46
    go_wp2_with fail
    refine wp_loop_rounds 1 ?_
    rw [rounds_succ]
    go_wp2_with fail
    refine (Tryd.Builder_Grow_fresh w.heap.size w.heap.size 8 _ (Nat.le_refl _) (heap_alloc_new w _) (by simp) (by omega)).mono ?_
    rintro e w1 ⟨rfl, hbd, hB1⟩
    go_wp2_with fail
    refine (num_any _ _).mono ?_
    rintro e w2 ⟨rfl, hB2⟩
    have hbd2 := builder_below hbd hB2
    have hB02 : Below w.heap.size w w2 := ((((Below.refl _ w).alloc (Nat.le_refl _) _).trans hB1).trans (hB2.mono (by have := hB1.size; simp at this; omega)))
    clear hB1 hB2 hbd
    go_wp2_with fail
    refine (Tryd.Builder_WriteString w.heap.size w.heap.size [] _ _ (.inr hbd2) (by simp [numB_size]) hB02.size).mono ?_
    rintro e w3 ⟨rfl, hbd3, hB3⟩
    rw [List.nil_append, strCells_eq] at hbd3
    have hB03 := hB02.trans hB3
    clear hbd2 hB3 hB02
    go_wp2_with fail
    refine wp_loop_rounds 1 ?_
    rw [rounds_succ]
    go_wp2_with fail
    refine (Tryd.Builder_String_any w.heap.size w.heap.size _ _ (.inr hbd3) hB03.size).mono ?_
    rintro e w4 ⟨rfl, hB4⟩
    have hB04 := hB03.trans hB4
    clear hbd3 hB4 hB03
    go_wp2_with fail
    go_ret
    exact ⟨by simp [joinB, joinL, partsL], hB04⟩
  · obtain ⟨len, hlen⟩ : ∃ len, len = ss.length := ⟨_, rfl⟩
    rw [← hlen] at hcap hl hcell ⊢
    have Hlen := Lib.hid hlen
    have Hz := Lib.hid hz
    unfold maxLen at hmax
    clear hlen hz
    go_enter Tryd.func46, Tryd.ntmps46
    go_wp2_with fail
    go_loop [3, 5, 11] (fun n _ i => ∃ k : Nat, k ≤ len ∧ i = .int .i64 k ∧ n = .int .i64 ((8 + 8 * k + total (ss.take k) : Nat) : Int)) (fun _ _ i => len - (intOf i).toNat)
    case atStart => exact ⟨0, by omega, rfl, rfl⟩
    case round =>
      obtain ⟨k, hk, rfl, rfl⟩ := hrel
      have htm := total_mono ss k ss.length (by have := Hlen.out; omega) (Nat.le_refl _)
      rw [List.take_length] at htm
      have hqz : total (ss.take k) ≤ 1099511627776 := by have := Hz.out; omega
      clear htm
      by_cases hlt : k < len
      · have hc := hcell k hlt
        have htm := total_mono ss (k+1) ss.length (by have := Hlen.out; omega) (Nat.le_refl _)
        rw [List.take_length] at htm
        have hts := total_take ss k (by have := Hlen.out; omega)
        have Hts := Lib.hid hts
        obtain ⟨s, hs⟩ : ∃ s, s = ss.getD k ByteArray.empty := ⟨_, rfl⟩
        rw [← hs] at hc hts
        have hsz : s.size ≤ 1099511627776 := by have := Hz.out; omega
        have Hs := Lib.hid hs
        clear hs hts hcell htm
        generalize hqq : total (ss.take k) = q at *
        clear hqq
        go_wp2_with fail
        exact ⟨⟨k + 1, by omega, by go_num, by rw [Hts.out, ← Hs.out]; go_num⟩, by simp [intOf]; omega⟩
      · obtain rfl : k = len := by omega
        generalize hqq : total (ss.take k) = q at *
        clear hqq
        go_wp2_with fail
        rw [show (8 + 8 * (k : Int) + (q : Int)) = ((8 + 8 * k + q : Nat) : Int) by omega]
        refine (Tryd.Builder_Grow_fresh w.heap.size w.heap.size (8 + 8 * k + q) _ (Nat.le_refl _) (heap_alloc_new w _) (by simp) (by omega)).mono ?_
        rintro e w1 ⟨rfl, hbd, hB1⟩
        go_wp2_with fail
        refine (num_any _ _).mono ?_
        rintro e w2 ⟨rfl, hB2⟩
        rw [len_mod _ (by omega)]
        have hbd2 := builder_below hbd hB2
        have hB02 : Below w.heap.size w w2 := ((((Below.refl _ w).alloc (Nat.le_refl _) _).trans hB1).trans (hB2.mono (by have := hB1.size; simp at this; omega)))
        clear hB1 hB2 hbd
        go_wp2_with fail
        refine (Tryd.Builder_WriteString w.heap.size w.heap.size [] (numB k) _ (.inr hbd2) (by simp [numB_size]) hB02.size).mono ?_
        rintro e w3 ⟨rfl, hbd3, hB3⟩
        rw [List.nil_append, strCells_eq] at hbd3
        have hB03 := hB02.trans hB3
        clear hbd2 hB3 hB02
        go_wp2_with fail
        go_loopw [8, 29] (fun _ i wr => ∃ j : Nat, j ≤ k ∧ i = .int .i64 j ∧ Lib.BuilderAt 118 5 w.heap.size w.heap.size (.pointer (some ⟨w.heap.size, 0, none⟩)) (Lib.byteCells ((numB k).data.toList ++ partsL (ss.take j))) wr ∧ Below w.heap.size w wr) (fun _ i _ => k - (intOf i).toNat)
        case atStart => exact ⟨0, by omega, rfl, by simpa [partsL] using hbd3, hB03⟩
        case round =>
          obtain ⟨j, hj, rfl, hbd, hB⟩ := hrel
          clear hbd3 hB03
          by_cases hjk : j < k
          · have hc : wr.cell? ⟨b, off + j, none⟩ = some (.string (ss.getD j ByteArray.empty)) := by rw [hB.cell (p := ⟨b, off + j, none⟩) hb]; exact hcell j hjk
            have hpt := partsL_take ss j (by have := Hlen.out; omega)
            have htl : total (ss.take (j + 1)) ≤ 1099511627776 := by
              have := total_mono ss (j + 1) ss.length (by have := Hlen.out; omega) (Nat.le_refl _)
              rw [List.take_length] at this; have := Hz.out; omega
            rw [total_take ss j (by have := Hlen.out; omega)] at htl
            have hpl := partsL_len (ss.take j)
            rw [List.length_take] at hpl
            obtain ⟨s, hs⟩ : ∃ s, s = ss.getD j ByteArray.empty := ⟨_, rfl⟩
            rw [← hs] at hc hpt htl
            have Hpt := Lib.hid hpt
            have Hpl := Lib.hid hpl
            have hsz : s.size ≤ 1099511627776 := by omega
            have hlb : (Lib.byteCells ((numB k).data.toList ++ partsL (ss.take j))).length ≤ 17592186044416 := by
              rw [Lib.byteCells_length, List.length_append, numB_len, hpl]; omega
            clear hs hpt hpl hcell htl
            go_wp2_with fail
            refine (num_any _ _).mono ?_
            rintro e w4 ⟨rfl, hB4⟩
            rw [len_mod _ (by omega)]
            have hbd4 := builder_below hbd hB4
            have hB04 := hB.trans (hB4.mono hB.size)
            clear hbd hB4 hB hc
            go_wp2_with fail
            refine (Tryd.Builder_WriteString w.heap.size w.heap.size _ (numB s.size) _ (.inr hbd4) (by rw [numB_size]; omega) hB04.size).mono ?_
            rintro e w5 ⟨rfl, hbd5, hB5⟩
            rw [strCells_eq, cells_append] at hbd5
            have hB05 := hB04.trans hB5
            clear hbd4 hB5 hB04
            go_wp2_with fail
            refine (Tryd.Builder_WriteString w.heap.size w.heap.size _ s _ (.inr hbd5) (by rw [← cells_append, List.length_append, Lib.byteCells_length (numB _).data.toList, numB_len]; omega) hB05.size).mono ?_
            rintro e w6 ⟨rfl, hbd6, hB6⟩
            rw [strCells_eq, cells_append] at hbd6
            have hB06 := hB05.trans hB6
            clear hbd5 hB6 hB05
            go_wp2_with fail
            refine ⟨⟨j + 1, by omega, by go_num, ?_, hB06⟩, by simp [intOf]; omega⟩
            rw [Hpt.out]
            simpa [List.append_assoc] using hbd6
          · obtain rfl : j = k := by omega
            clear hcell
            have htk : ss.take j = ss := by rw [Hlen.out, List.take_length]
            rw [htk] at hbd
            clear htk
            go_wp2_with fail
            refine (Tryd.Builder_String_any w.heap.size w.heap.size _ _ (.inr hbd) hB.size).mono ?_
            rintro e w4 ⟨rfl, hB4⟩
            have hB04 := hB.trans hB4
            clear hbd hB4 hB
            go_wp2_with fail
            go_ret
            have ej : joinB ss = ⟨((numB j).data.toList ++ partsL ss).toArray⟩ := by rw [joinB, joinL, ← Hlen.out]
            exact ⟨by rw [ej]; rfl, hB04⟩
end Go.Proofs.YtdhaanaenklleaaDoor.S
