/- Walks: the document's Join. -/
import Derived.Test.YtdhaanaenklleaaDoorSJe
namespace Go.Proofs.YtdhaanaenklleaaDoor.S
open Go.ChangeShapes Go.WideShapes Go.ChangeAt Go.RowKit

def mkB (l : List UInt8) : ByteArray := ⟨l.toArray⟩
theorem mkB_append (a : List UInt8) (s : ByteArray) : mkB a ++ s = mkB (a ++ s.data.toList) := by
  apply ByteArray.ext
  apply Array.toList_inj.1
  simp [mkB]
theorem mkB_data (s : ByteArray) : mkB s.data.toList = s := by cases s; rfl
theorem mkB_size (a : List UInt8) : (mkB a).size = a.length := by simp [mkB, ByteArray.size]

set_option maxRecDepth 100000 in
set_option maxHeartbeats 400000 in
theorem refJoin_any (v : Value) (ss : List ByteArray) (w : World) (hv : Strs w v ss) (hz : total ss ≤ 1099511627776) (hl : ss.length ≤ 1099511627776) :
    Calls Tryd.prog 51 #[v] w fun e w' => e = .returned (.string (joinB ss)) ∧ Below w.heap.size w w' := by
  rcases hv with ⟨⟨pz, cz, rfl⟩, rfl⟩ | ⟨b, off, cap, rfl, hcap, hmax, hb, hcell⟩
  · go_enter Tryd.func51, Tryd.ntmps51
    go_wp2_with fail
    refine (refNum_any _ _).mono ?_
    rintro e w1 ⟨rfl, hB1⟩
    go_wp2_with fail
    refine wp_loop_rounds 1 ?_
    rw [rounds_succ]
    go_wp2_with fail
    go_ret
    exact ⟨by simp only [joinB, joinL, partsL, List.append_nil]; rfl, hB1⟩
  · obtain ⟨len, hlen⟩ : ∃ len, len = ss.length := ⟨_, rfl⟩
    rw [← hlen] at hcap hl hcell ⊢
    have Hlen := Lib.hid hlen
    have Hz := Lib.hid hz
    unfold maxLen at hmax
    clear hlen hz
    go_enter Tryd.func51, Tryd.ntmps51
    go_wp2_with fail
    refine (refNum_any _ _).mono ?_
    rintro e w1 ⟨rfl, hB1⟩
    rw [len_mod _ (by omega)]
    go_wp2_with fail
    go_loopw [3, 5, 11] (fun s _ i wr => ∃ k : Nat, k ≤ len ∧ i = .int .i64 k ∧ s = .string (mkB ((numB len).data.toList ++ partsL (ss.take k))) ∧ Below w.heap.size w wr) (fun _ _ i _ => len - (intOf i).toNat)
    case atStart => exact ⟨0, by omega, rfl, by simp [partsL, mkB_data], hB1⟩
    case round =>
      obtain ⟨k, hk, rfl, rfl, hB⟩ := hrel
      clear hB1
      by_cases hlt : k < len
      · have hc : wr.cell? ⟨b, off + k, none⟩ = some (.string (ss.getD k ByteArray.empty)) := by rw [hB.cell (p := ⟨b, off + k, none⟩) hb]; exact hcell k hlt
        have hpt := partsL_take ss k (by have := Hlen.out; omega)
        have htl : total (ss.take (k + 1)) ≤ 1099511627776 := by
          have := total_mono ss (k + 1) ss.length (by have := Hlen.out; omega) (Nat.le_refl _)
          rw [List.take_length] at this; have := Hz.out; omega
        rw [total_take ss k (by have := Hlen.out; omega)] at htl
        have hpl := partsL_len (ss.take k)
        rw [List.length_take] at hpl
        obtain ⟨s, hs⟩ : ∃ s, s = ss.getD k ByteArray.empty := ⟨_, rfl⟩
        rw [← hs] at hc hpt htl
        obtain ⟨t, ht⟩ : ∃ t, t = mkB ((numB len).data.toList ++ partsL (ss.take k)) := ⟨_, rfl⟩
        have hts : t.size ≤ 17592186044416 := by rw [ht, mkB_size, List.length_append, numB_len, hpl]; omega
        rw [← ht]
        have Hpt := Lib.hid hpt
        have Ht := Lib.hid ht
        have hsz : s.size ≤ 1099511627776 := by omega
        clear hs hpt hpl hcell htl ht
        go_wp2_with fail
        refine (refNum_any _ _).mono ?_
        rintro e w4 ⟨rfl, hB4⟩
        rw [len_mod _ (by omega)]
        have hB04 := hB.trans (hB4.mono hB.size)
        have hns : (numB s.size).size ≤ 8 := by rw [numB_size]; omega
        obtain ⟨n8, hn8⟩ : ∃ n8, n8 = numB s.size := ⟨_, rfl⟩
        rw [← hn8] at hns ⊢
        have Hn8 := Lib.hid hn8
        have hns2 : (t ++ n8).size ≤ 17592186044424 := by rw [ByteArray.size_append]; omega
        clear hB4 hB hc hn8
        go_wp2_with fail
        refine ⟨⟨k + 1, by omega, by go_num, ?_, hB04⟩, by simp [intOf]; omega⟩
        rw [Hpt.out, Ht.out, Hn8.out, mkB_append, mkB_append]
        simp only [List.append_assoc]
      · obtain rfl : k = len := by omega
        clear hcell
        have htk : ss.take k = ss := by rw [Hlen.out, List.take_length]
        rw [htk]
        clear htk
        go_wp2_with fail
        go_ret
        have ej : joinB ss = mkB ((numB k).data.toList ++ partsL ss) := by rw [joinB, joinL, ← Hlen.out]; rfl
        exact ⟨by rw [ej]; rfl, hB⟩
end Go.Proofs.YtdhaanaenklleaaDoor.S
