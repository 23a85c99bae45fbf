/- Walks: the statement FramePuts. -/
import Derived.Test.YtcbddkncaeancaaWl
namespace Go.Proofs.Ytcbddkncaeancaa
set_option linter.unusedVariables false
open Go.ChangeShapes Go.WideShapes Go.ChangeAt Go.RowKit

set_option maxHeartbeats 400000 in
theorem puts_none (v u : Value) (l : List UInt8) (ss : List ByteArray) (w : World) (hv : BytsA w v l) (hl : l.length ≤ 9223372036854775807) (hu : Strs w u ss) (hz : ∀ s ∈ ss, s.size ≤ 140737488351232)
    (hg : isGreat ss = true ∨ 4096 < l.length) : Calls Try.prog 3 #[v, u] w (LawEnd w) := by
  obtain ⟨p, cap, rfl⟩ := byts_shape hv.byts
  have hgr : ∀ w1, Below w.heap.size w w1 → Calls Try.prog 11 #[u] w1 fun e w' => e = .returned (.bool (isGreat ss)) ∧ w1 = w' := fun w1 hB => great_any u ss w1 (hu.below hB) hz
  have Hgr := Lib.hid hgr
  clear hgr hv hu hz
  generalize l.length = n at *
  generalize isGreat ss = g at *
  go_enter Try.func3, Try.ntmps3
  go_wp2_with fail
  refine (alive_any _).mono ?_
  rintro e w1 ⟨rfl, hB1⟩
  go_wp2_with fail
  refine (Hgr.out _ hB1).mono ?_
  rintro e w2 ⟨rfl, rfl⟩
  cases g with
  | true =>
    clear hg
    go_wp2_with fail
    go_ret
    exact ⟨rfl, hB1⟩
  | false =>
    have h1 : decide ((4096 : Int) < (n : Int)) = true := by simp at hg; simp; omega
    clear hg
    go_wp2_with fail
    go_ret
    exact ⟨rfl, hB1⟩

theorem recsL_short (ss : List ByteArray) (k : Nat) (h : k < ss.length) (hs : (ss.getD k ByteArray.empty).size ≤ 65536) : recsL (ss.take (k + 1)) = recsL (ss.take k) ++ recL (ss.getD k ByteArray.empty) := by
  rw [recsL_take ss k h, recP_fits (by omega)]

set_option maxHeartbeats 1000000 in
theorem puts_some (v u : Value) (l : List UInt8) (ss : List ByteArray) (w : World) (hv : BytsA w v l) (hl : l.length ≤ 4096) (hu : Strs w u ss) (hz : ∀ s ∈ ss, s.size ≤ 140737488351232)
    (hg : isGreat ss = false) : Calls Try.prog 3 #[v, u] w (LawEnd w) := by
  obtain ⟨htot, hlen⟩ := not_great hg
  obtain ⟨p, cap, rfl⟩ := byts_shape hv.byts
  obtain ⟨p2, cap2, rfl, hp2⟩ := strs_shape hu
  have hgr : ∀ w1, Below w.heap.size w w1 → Calls Try.prog 11 #[.slice p2 ss.length cap2] w1 fun e w' => e = .returned (.bool false) ∧ w1 = w' := fun w1 hB => by
    have := great_any _ ss w1 (hu.below hB) hz
    rwa [hg] at this
  have hpt : ∀ (v2 : Value) w1, Below w.heap.size w w1 → w1.ownsRow w.heap.size 5 1 v2 l.length (cellsL l) → Calls Try.prog 15 #[v2, .slice p2 ss.length cap2] w1 fun e w' => ∃ v', e = .returned v' ∧ BytsA w' v' (l ++ recsL ss) ∧ Below w1.heap.size w1 w' := fun v2 w1 hB ho =>
    (put_any v2 _ l ss w1 (BytsA.ofRow ho) (hu.below hB) (by omega)).mono fun e w' ⟨v', h1, h2, h3⟩ => ⟨v', h1, BytsA.ofRow h2, h3⟩
  have hvb : ∀ w1, Below w.heap.size w w1 → BytsA w1 (.slice p l.length cap) l := fun w1 hB => hv.below hB
  have Hgr := Lib.hid hgr
  have Hpt := Lib.hid hpt
  have Hv := Lib.hid hvb
  have Hp2 := Lib.hid hp2
  clear hgr hpt hvb hv hu hz hp2 hg
  obtain ⟨n, hn⟩ : ∃ n, n = l.length := ⟨_, rfl⟩
  obtain ⟨len, hln⟩ : ∃ len, len = ss.length := ⟨_, rfl⟩
  rw [← hn] at hl Hv Hpt ⊢
  rw [← hln] at Hgr Hpt Hp2 hlen ⊢
  have Hn := Lib.hid hn
  have Hln := Lib.hid hln
  have Htot := Lib.hid htot
  clear hn hln htot
  have h1 : decide ((4096 : Int) < (n : Int)) = false := by simp; omega
  go_enter Try.func3, Try.ntmps3
  go_wp2_with fail
  refine (alive_any _).mono ?_
  rintro e w1 ⟨rfl, hB1⟩
  go_wp2_with fail
  refine (Hgr.out _ hB1).mono ?_
  rintro e w2 ⟨rfl, rfl⟩
  have hcv := byts_conv (Hv.out _ hB1)
  go_wp2_with fail
  clear hcv
  go_loopw [5, 7, 21] (fun s _ i wr => ∃ k : Nat, k ≤ len ∧ i = .int .i64 k ∧ s = .string (mkB (l ++ recsL (ss.take k))) ∧ Below w.heap.size w wr) (fun _ _ i _ => len - (intOf i).toNat)
  case atStart => exact ⟨0, by omega, rfl, by simp [recsL], hB1⟩
  case round =>
    obtain ⟨k, hk, rfl, rfl, hB⟩ := hrel
    clear hB1
    have hBs := hB.size
    by_cases hlt : k < len
    · obtain ⟨b, off, rfl, hb, hcap, hmax, hcell⟩ := Hp2.out (by omega)
      have hc : wr.cell? ⟨b, off + k, none⟩ = some (.string (ss.getD k ByteArray.empty)) := by rw [hB.cell (p := ⟨b, off + k, none⟩) hb]; exact hcell k hlt
      have htl : total (ss.take (k + 1)) ≤ 8192 := by
        have := total_mono ss (k + 1) ss.length (by have := Hln.out; omega) (Nat.le_refl _)
        rw [List.take_length] at this; have := Htot.out; omega
      rw [total_take ss k (by have := Hln.out; omega)] at htl
      have hrt := recsL_short ss k (by have := Hln.out; omega) (by omega)
      have hrl := recsL_le (ss.take k)
      rw [List.length_take] at hrl
      obtain ⟨s, hs⟩ : ∃ s, s = ss.getD k ByteArray.empty := ⟨_, rfl⟩
      rw [← hs] at hc hrt htl
      have hsz : s.size ≤ 8192 := by omega
      obtain ⟨t, ht⟩ : ∃ t, t = mkB (l ++ recsL (ss.take k)) := ⟨_, rfl⟩
      have hts : t.size ≤ 17592186044416 := by rw [ht, mkB_size, List.length_append]; have := Hn.out; omega
      have hnext : t ++ mkB (recL s) = mkB (l ++ recsL (ss.take (k + 1))) := by rw [ht, mkB_append, mkB_toList, hrt, List.append_assoc]
      rw [← ht]
      have Hnx := Lib.hid hnext
      unfold maxLen at hmax
      clear hs hrt hcell ht hnext hrl htl
      have hk1 := fun w1 => check_any s w1 (by omega)
      have hk2 := fun w1 => refCheck_any s w1 (by omega)
      have hk3 := fun w1 => bytes_any s w1 (by omega)
      have hrz : (mkB (recL s)).size ≤ 8200 := by rw [mkB_size, recL_len]; omega
      generalize crc s.data.toList = c at *
      generalize mkB (recL s) = r at *
      have Hk1 := Lib.hid hk1
      have Hk2 := Lib.hid hk2
      have Hk3 := Lib.hid hk3
      clear hk1 hk2 hk3
      go_wp2_with fail
      refine (Hk1.out _).mono ?_
      rintro e w4 ⟨rfl, rfl⟩
      go_wp2_with fail
      refine (Hk2.out _).mono ?_
      rintro e w4 ⟨rfl, rfl⟩
      go_wp2_with fail
      refine (Hk3.out _).mono ?_
      rintro e w4 ⟨rfl, hB4⟩
      have hB04 := hB.trans (hB4.mono hBs)
      clear hB hB4 hc
      go_wp2_with fail
      exact ⟨⟨k + 1, by omega, by go_num, by rw [← Hnx.out], hB04⟩, by simp [intOf]; omega⟩
    · obtain rfl : k = len := by omega
      have htk : ss.take k = ss := by rw [Hln.out, List.take_length]
      rw [htk]
      clear htk
      have hown0 := World.ownsRow_made (base := w.heap.size) (e := 5) (size := 1) wr #[] 0 hBs (by unfold maxLen; omega) rfl
      have hBa : Below w.heap.size w (wr.alloc (.cells #[] 5)) := hB.alloc hBs _
      have hva := Hv.out _ hBa
      have hBas : w.heap.size ≤ (wr.alloc (.cells #[] 5)).heap.size := hBa.size
      have Hva := Lib.hid hva
      have Hl := Lib.hid (show 0 + l.length ≤ 140737488355328 by have := Hn.out; omega)
      clear hva
      go_wp2_with (at_builtin; go_must (refine wpList_append_byts rfl (.tmp 35) (.tmp 36) rfl w.heap.size _ 0 [] rfl hown0 _ l Hva.out rfl Hl.out hBas ?_); intro v2 w2 hown2 hgrow2)
      have hB2 : Below w.heap.size w w2 := hBa.grown hgrow2 hBas (fun k hk => (hown0.lt k hk).1)
      rw [Nat.zero_add, List.nil_append, ← Hn.out] at hown2
      refine (Hpt.out _ _ hB2 hown2).mono ?_
      rintro e w3 ⟨v3, rfl, hv3, hB3⟩
      have hB03 := hB2.trans (hB3.mono hB2.size)
      have hcv := byts_conv hv3
      generalize mkB (l ++ recsL ss) = m at *
      clear hv3 hB3 hB2 hown2 hgrow2 hB hBa hown0
      go_wp2_with fail
      go_ret
      exact ⟨rfl, hB03⟩

theorem puts_walk (v u : Value) (l : List UInt8) (ss : List ByteArray) (w : World) (hv : BytsA w v l) (hl : l.length ≤ 9223372036854775807) (hu : Strs w u ss) (hz : ∀ s ∈ ss, s.size ≤ 140737488351232) : Calls Try.prog 3 #[v, u] w (LawEnd w) := by
  by_cases h : isGreat ss = true ∨ 4096 < l.length
  · exact puts_none v u l ss w hv hl hu hz h
  · exact puts_some v u l ss w hv (by omega) hu hz (by cases hg : isGreat ss with | true => exact absurd (.inl hg) h | false => rfl)
end Go.Proofs.Ytcbddkncaeancaa
