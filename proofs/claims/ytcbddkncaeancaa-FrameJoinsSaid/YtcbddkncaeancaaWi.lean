/- Walks: records are put. -/
import Derived.Test.YtcbddkncaeancaaWh
import Derived.OwnWalk
namespace Go.Proofs.Ytcbddkncaeancaa
set_option linter.unusedVariables false
open Go.ChangeShapes Go.WideShapes Go.ChangeAt Go.RowKit

theorem strs_shape {w : World} {v : Value} {ss : List ByteArray} (h : Strs w v ss) : ∃ p cap, v = .slice p ss.length cap ∧ (0 < ss.length → ∃ b off, p = some ⟨b, off, none⟩ ∧ b < w.heap.size ∧ ss.length ≤ cap ∧ cap ≤ maxLen ∧ ∀ i, i < ss.length → w.cell? ⟨b, off + i, none⟩ = some (.string (ss.getD i ByteArray.empty))) := by
  rcases h with ⟨⟨p, cap, rfl⟩, rfl⟩ | ⟨b, off, cap, hv, hl, hm, hb, hcell⟩
  · exact ⟨p, cap, rfl, fun h => by simp at h⟩
  · exact ⟨_, cap, hv, fun _ => ⟨b, off, rfl, hb, hl, hm, hcell⟩⟩
theorem byts_shape {w : World} {v : Value} {l : List UInt8} (h : Byts w v l) : ∃ p cap, v = .slice p l.length cap := by
  rcases h with ⟨⟨p, cap, rfl⟩, rfl⟩ | ⟨b, off, cap, hv, _⟩
  · exact ⟨p, cap, rfl⟩
  · exact ⟨_, cap, hv⟩

/-- What one text adds. -/
def recP (s : ByteArray) : List UInt8 := if 65536 < s.size then [] else recL s
theorem recP_long {s : ByteArray} (h : 65536 < s.size) : recP s = [] := if_pos h
theorem recP_fits {s : ByteArray} (h : ¬ 65536 < s.size) : recP s = recL s := if_neg h
theorem recP_le (s : ByteArray) : (recP s).length ≤ 8 + s.size := by
  unfold recP; split
  · simp
  · rw [recL_len]; omega
theorem recsL_take (ss : List ByteArray) (k : Nat) (h : k < ss.length) : recsL (ss.take (k + 1)) = recsL (ss.take k) ++ recP (ss.getD k ByteArray.empty) := by
  rw [List.take_succ_eq_append_getElem h, recsL_append]
  simp only [recsL, List.append_nil]
  simp [recP, List.getD, h]
theorem recsL_le (ss : List ByteArray) : (recsL ss).length ≤ 8 * ss.length + total ss := by
  induction ss with
  | nil => simp [recsL]
  | cons s r ih =>
    have := recP_le s
    show (recP s ++ recsL r).length ≤ _
    rw [List.length_append]
    simp only [List.length_cons, total]
    omega

theorem len_word (a : List UInt8) (x : Nat) : (a ++ wordL x).length = a.length + 4 := by rw [List.length_append, wordL_len]
theorem below_trans' {B : Nat} {a b c : World} (h : Below B a b) (h2 : Below B b c) : Below B a c := h.trans h2

set_option maxHeartbeats 1000000 in
theorem put_any (v u : Value) (l : List UInt8) (ss : List ByteArray) (w : World) (hv : BytsA w v l) (hu : Strs w u ss) (hz : l.length + 8 * ss.length + total ss ≤ 1099511627776) :
    Calls Try.prog 15 #[v, u] w fun e w' => ∃ v', e = .returned v' ∧ w'.ownsRow w.heap.size 5 1 v' (l ++ recsL ss).length (cellsL (l ++ recsL ss)) ∧ Below w.heap.size w w' := by
  obtain ⟨i0, hi, hz0, hz1, hz2⟩ := info_parts Try.info5
  obtain ⟨p, cap, rfl, hp⟩ := strs_shape hu
  obtain ⟨p2, cap2, rfl⟩ := byts_shape hv.byts
  obtain ⟨len, hlen⟩ : ∃ len, len = ss.length := ⟨_, rfl⟩
  rw [← hlen] at hp hz
  have Hp := Lib.hid hp
  have Hz := Lib.hid hz
  have hv2 : ∀ w1, Below w.heap.size w w1 → BytsA w1 (.slice p2 l.length cap2) l := fun w1 hB => hv.below hB
  have Hv := Lib.hid hv2
  obtain ⟨n0, hn0⟩ : ∃ n0, n0 = l.length := ⟨_, rfl⟩
  rw [← hn0] at Hv hz
  have Hn0 := Lib.hid hn0
  rw [← hlen]
  have hr := recsL_le ss
  have Hlen := Lib.hid hlen
  have hn0z : n0 + 8 * len ≤ 1099511627776 := by omega
  rw [← hn0]
  clear hp hz hv hu hv2 hlen hr hn0
  go_enter Try.func15, Try.ntmps15
  go_wp2_with fail
  go_loop [5, 7, 15] (fun n _ i => ∃ k : Nat, k ≤ len ∧ i = .int .i64 k ∧ n = .int .i64 ((n0 + 8 * k + total (ss.take k) : Nat) : Int)) (fun _ _ i => len - (intOf i).toNat)
  case atStart => exact ⟨0, by omega, rfl, rfl⟩
  case round =>
    obtain ⟨k, hk, rfl, rfl⟩ := hrel
    have htm := total_mono ss k ss.length (by have := Hlen.out; omega) (Nat.le_refl _)
    rw [List.take_length] at htm
    have hqz : n0 + 8 * k + total (ss.take k) ≤ 1099511627776 := by have := Hz.out; have := Hn0.out; omega
    clear htm
    by_cases hlt : k < len
    · obtain ⟨b, off, rfl, hb, hcap, hmax, hcell⟩ := Hp.out (by omega)
      have hc := hcell k (by have := Hlen.out; omega)
      have htm := total_mono ss (k+1) ss.length (by have := Hlen.out; omega) (Nat.le_refl _)
      rw [List.take_length] at htm
      have hts := total_take ss k (by have := Hlen.out; omega)
      have Hts := Lib.hid hts
      obtain ⟨s, hs⟩ : ∃ s, s = ss.getD k ByteArray.empty := ⟨_, rfl⟩
      rw [← hs] at hc hts
      have hsz : total (ss.take k) + s.size ≤ 1099511627776 := by have := Hz.out; omega
      have Hs := Lib.hid hs
      unfold maxLen at hmax
      clear hs hts hcell htm
      generalize hqq : total (ss.take k) = q at *
      clear hqq
      go_wp2_with fail
      exact ⟨⟨k + 1, by omega, by go_num, by rw [Hts.out, ← Hs.out]; go_num⟩, by simp [intOf]; omega⟩
    · obtain rfl : k = len := by omega
      have hqz2 : n0 + 8 * k + total ss ≤ 1099511627776 := by have := Hz.out; have := Hn0.out; omega
      rw [show ss.take k = ss by rw [Hlen.out, List.take_length]] at *
      clear hqz
      generalize hqq : total ss = q at *
      have Hqq := Lib.hid hqq
      clear hqq
      go_wp2_with (first | (at_make; refine wpList_make_own _ rfl _ _ 22 rfl w.heap.size 5 i0 (.int .u8 0) 1 Try.underlying22 hi hz0 hz1 .i64 .i64 _ (n0 + 8 * k + q) rfl rfl (by omega) (by rw [hz2]; omega) (by unfold maxLen; omega) (Nat.le_refl _) ?_; intro w1 hown1 hgrow1; have hB1 : Below w.heap.size w w1 := (Below.refl _ w).grown hgrow1 (Nat.le_refl _) (fun k h => by cases h)) | (at_builtin; go_must (refine wpList_append_byts rfl (.tmp 27) (.tmp 28) rfl w.heap.size _ 0 [] rfl hown1 _ l (Hv.out w1 hB1) rfl (by have := Hn0.out; omega) hB1.size ?_); intro v2 w2 hown2 hgrow2; have hB2 : Below w.heap.size w w2 := hB1.grown hgrow2 hB1.size (fun k hk => (hown1.lt k hk).1); clear hown1 hgrow1 hgrow2 hB1))
      rw [Nat.zero_add, List.nil_append, ← Hn0.out] at hown2
      go_loopw [8, 10, 32] (fun ov _ i wr => ∃ j : Nat, j ≤ k ∧ i = .int .i64 j ∧ wr.ownsRow w.heap.size 5 1 ov (l ++ recsL (ss.take j)).length (cellsL (l ++ recsL (ss.take j))) ∧ Below w.heap.size w wr) (fun _ _ i _ => k - (intOf i).toNat)
      case atStart => exact ⟨0, by omega, rfl, by simpa [recsL, ← Hn0.out] using hown2, hB2⟩
      case round =>
        obtain ⟨j, hj, rfl, hown, hB⟩ := hrel
        clear hown2 hB2
        have hBs := hB.size
        have hjl : j ≤ ss.length := by have := Hlen.out; omega
        have hle := recsL_le (ss.take j)
        have htm := total_mono ss j ss.length hjl (Nat.le_refl _)
        rw [List.take_length, Hqq.out] at htm
        have hlen2 : (l ++ recsL (ss.take j)).length ≤ 1099511627776 := by
          have := Hn0.out
          rw [List.length_append]
          rw [List.length_take] at hle
          omega
        clear hle htm hjl
        by_cases hjk : j < k
        · obtain ⟨b, off, rfl, hb, hcap, hmax, hcell⟩ := Hp.out (by omega)
          have hc : wr.cell? ⟨b, off + j, none⟩ = some (.string (ss.getD j ByteArray.empty)) := by rw [hB.cell (p := ⟨b, off + j, none⟩) hb]; exact hcell j hjk
          have hrt := recsL_take ss j (by have := Hlen.out; omega)
          obtain ⟨s, hs⟩ : ∃ s, s = ss.getD j ByteArray.empty := ⟨_, rfl⟩
          rw [← hs] at hc hrt
          have hsz : s.size ≤ 1099511627776 := by
            have h1 := total_mono ss (j + 1) ss.length (by have := Hlen.out; omega) (Nat.le_refl _)
            have h2 := total_take ss j (by have := Hlen.out; omega)
            rw [List.take_length, Hqq.out] at h1
            rw [← hs] at h2
            omega
          have Hrt := Lib.hid hrt
          unfold maxLen at hmax
          clear hs hrt hcell
          generalize hL : l ++ recsL (ss.take j) = L at *
          have HL := Lib.hid hL
          clear hL
          by_cases hlong : 65536 < s.size
          · have h1 : decide ((65536 : Int) < (s.size : Int)) = true := by simp; omega
            have hrp := recP_long hlong
            have Hrp := Lib.hid hrp
            clear hrp hlong
            go_wp2_with fail
            refine ⟨⟨j + 1, by omega, by go_num, ?_, hB⟩, by simp [intOf]; omega⟩
            rw [Hrt.out, Hrp.out, List.append_nil, HL.out]
            exact hown
          · have h1 : decide ((65536 : Int) < (s.size : Int)) = false := by simp; omega
            have hrp := recP_fits hlong
            have Hrp := Lib.hid hrp
            have hk1 := fun w1 => check_any s w1 (by omega)
            have hcl := crc_lt s.data.toList
            have hL2 : L ++ (wordL s.size ++ (wordL (crc s.data.toList) ++ s.data.toList)) = l ++ recsL (ss.take (j + 1)) := by
              rw [Hrt.out, Hrp.out, ← List.append_assoc l, HL.out]; simp only [recL, List.append_assoc]
            have HL2 := Lib.hid hL2
            generalize crc s.data.toList = c at *
            have Hk := Lib.hid hk1
            clear hrp hk1 hL2
            go_wp2_with fail
            refine (put32_any _ L s.size w.heap.size _ (by omega) hown (by omega) hBs).mono ?_
            rintro e w3 ⟨v3, rfl, hown3, hB3⟩
            have hB03 := below_trans' hB hB3
            have hBs3 := hB03.size
            rw [← len_word L s.size] at hown3
            clear hown hB3 hc
            go_wp2_with fail
            refine (Hk.out _).mono ?_
            rintro e w4 ⟨rfl, rfl⟩
            go_wp2_with fail
            refine (put32_any _ (L ++ wordL s.size) c w.heap.size _ hcl hown3 (by rw [len_word]; omega) hBs3).mono ?_
            rintro e w5 ⟨v5, rfl, hown5, hB5⟩
            have hB05 := below_trans' hB03 hB5
            have hBs5 := hB05.size
            rw [← len_word (L ++ wordL s.size) c] at hown5
            clear hown3 hB5
            have hl5 : (L ++ wordL s.size ++ wordL c).length ≤ 1099511627784 := by rw [len_word, len_word]; omega
            go_wp2_with (at_builtin; go_must (refine Lib.wpList_append_own_string _ rfl (.tmp 48) (.tmp 49) 22 9 rfl w.heap.size 5 i0 Try.underlying22 Try.underlying9 hi hz0 hz1 hz2 _ _ _ rfl hown5 s rfl (by unfold maxLen; omega) (by omega) hBs5 ?_); intro v6 w6 hown6 hgrow6 _)
            refine ⟨⟨j + 1, by omega, by go_num, ?_, hB05.grown hgrow6 hBs5 (fun k hk => (hown5.lt k hk).1)⟩, by simp [intOf]; omega⟩
            rw [← HL2.out]
            have e2 : Lib.strCells s = cellsL s.data.toList := rfl
            rw [e2, ← cellsL_append] at hown6
            rw [show (L ++ wordL s.size ++ wordL c).length + s.size = (L ++ (wordL s.size ++ (wordL c ++ s.data.toList))).length by simp only [List.length_append, ba_len]; omega, List.append_assoc, List.append_assoc] at hown6
            exact hown6
        · obtain rfl : j = k := by omega
          rw [show ss.take j = ss by rw [Hlen.out, List.take_length]] at hown
          go_wp2_with fail
          go_ret
          exact ⟨_, rfl, hown, hB⟩
end Go.Proofs.Ytcbddkncaeancaa
