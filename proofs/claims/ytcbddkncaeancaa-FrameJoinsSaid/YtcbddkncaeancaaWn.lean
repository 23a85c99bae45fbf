/- Walks: the statement FrameBack. -/
import Derived.Test.YtcbddkncaeancaaWm
namespace Go.Proofs.Ytcbddkncaeancaa
set_option linter.unusedVariables false
open Go.ChangeShapes Go.WideShapes Go.ChangeAt Go.RowKit

theorem great_law5 (u : Value) (ss : List ByteArray) (cut : Int) (w : World) (hu : Strs w u ss) (hz : ∀ s ∈ ss, s.size ≤ 140737488351232) (hg : isGreat ss = true) : Calls Try.prog 5 #[u, .int .i64 cut] w (LawEnd w) := by
  have hgr : ∀ w1, Below w.heap.size w w1 → Calls Try.prog 11 #[u] w1 fun e w' => e = .returned (.bool true) ∧ w1 = w' := fun w1 hB => by
    have := great_any u ss w1 (hu.below hB) hz
    rwa [hg] at this
  have Hgr := Lib.hid hgr
  clear hgr hu hz hg
  go_enter Try.func5, Try.ntmps5
  go_wp2_with fail
  refine (alive_any _).mono ?_
  rintro e w1 ⟨rfl, hB1⟩
  go_wp2_with fail
  refine (Hgr.out _ hB1).mono ?_
  rintro e w2 ⟨rfl, rfl⟩
  go_wp2_with fail
  go_ret
  exact ⟨rfl, hB1⟩

theorem upto_run (p : Option Addr) (len cap n : Nat) (h : n ≤ cap) (w1 : World) : (Instr.slice 22 (.slice p len cap) none (some (.int .i64 n)) none).run Try.prog w1 = .ok (.slice (if cap = 0 then p else p.map (·.add 0)) n cap) w1 := by
  have h2 : (n : Int) ≤ cap := by omega
  have he : Try.prog.elem 22 = 5 := by kernel_rfl
  have hz : (sizeOf 5).run Try.prog w1 = .ok 1 w1 := by kernel_rfl
  rw [run_slice_h w1 22 _ _ _ (by rw [he]; exact Try.underlying22) .i64 _ (by omega) h2, he, hz]
  simp [Result.andThen, sliced]

theorem add_zero' (x : Addr) : x.add 0 = x := by unfold Addr.add; split <;> simp_all

theorem byts_upto (w : World) (p : Option Addr) (cap n : Nat) (l : List UInt8) (hv : BytsA w (.slice p l.length cap) l) (hn : n ≤ l.length) :
    (∀ w1, (Instr.slice 22 (.slice p l.length cap) none (some (.int .i64 n)) none).run Try.prog w1 = .ok (.slice p n cap) w1) ∧ Byts w (.slice p n cap) (l.take n) := by
  have hp : (if cap = 0 then p else p.map (·.add 0)) = p := by
    split
    · rfl
    · cases p <;> simp [add_zero']
  have hc : n ≤ cap := by
    rcases hv with ⟨h1, rfl⟩ | ⟨x, c, h1, rfl⟩ | ⟨b, off, c, h1, hcap, hmax, hb, hcell⟩
    · simp at hn; omega
    · simp at hn; omega
    · cases h1; omega
  refine ⟨fun w1 => by rw [upto_run _ _ _ _ hc, hp], ?_⟩
  rcases hv with ⟨h1, rfl⟩ | ⟨x, c, h1, rfl⟩ | ⟨b, off, c, h1, hcap, hmax, hb, hcell⟩
  · simp at hn; subst hn; exact .inl ⟨⟨_, _, rfl⟩, by simp⟩
  · simp at hn; subst hn; exact .inl ⟨⟨_, _, rfl⟩, by simp⟩
  · cases h1
    refine .inr ⟨b, off, cap, by rw [List.length_take, Nat.min_eq_left hn], by rw [List.length_take]; omega, hmax, hb, fun i hi => ?_⟩
    rw [List.length_take] at hi
    rw [hcell i (by omega)]
    simp [List.getD_eq_getElem?_getD, List.getElem?_take_of_lt (show i < n by omega)]

theorem recsL_at (ss : List ByteArray) (i : Nat) (h : i < ss.length) (hs : (ss.getD i ByteArray.empty).size ≤ 65536) : recsL ss = recsL (ss.take i) ++ (recL (ss.getD i ByteArray.empty) ++ recsL (ss.drop (i + 1))) := by
  have e : ss = ss.take (i + 1) ++ ss.drop (i + 1) := (List.take_append_drop _ _).symm
  conv => lhs; rw [e]
  rw [recsL_append, recsL_short ss i h hs, List.append_assoc]

theorem cut_at (ss : List ByteArray) (i cut : Nat) (h : i < ss.length) (hs : ∀ s ∈ ss, s.size ≤ 65536) (h1 : (recsL (ss.take i)).length ≤ cut) (h2 : cut < (recsL (ss.take i)).length + 8 + (ss.getD i ByteArray.empty).size) :
    splitL ((recsL ss).take cut) = (ss.take i, (recsL (ss.take i)).length) := by
  have hsi : (ss.getD i ByteArray.empty).size ≤ 65536 := hs _ (by rw [List.getD_eq_getElem?_getD, List.getElem?_eq_getElem h]; simp)
  rw [recsL_at ss i h hsi, List.take_append, List.take_of_length_le h1]
  refine split_recs _ _ (fun s hm => hs s (List.mem_of_mem_take hm)) ?_
  rw [List.take_append_of_le_length (by rw [recL_len]; omega)]
  exact whole_cut _ _ (by omega) hsi

theorem total_each (ss : List ByteArray) (h : total ss ≤ 8192) : ∀ s ∈ ss, s.size ≤ 65536 := fun s hs => by have := total_mem ss s hs; omega

theorem strs_upto {w : World} {b off cap : Nat} {ss : List ByteArray} (i : Nat) (hi : i ≤ ss.length) (hcap : ss.length ≤ cap) (hmax : cap ≤ maxLen) (hb : b < w.heap.size) (hcell : ∀ i, i < ss.length → w.cell? ⟨b, off + i, none⟩ = some (.string (ss.getD i ByteArray.empty))) :
    Strs w (.slice (some ⟨b, off, none⟩) i cap) (ss.take i) := by
  refine .inr ⟨b, off, cap, by rw [List.length_take, Nat.min_eq_left hi], by rw [List.length_take]; omega, hmax, hb, fun j hj => ?_⟩
  rw [List.length_take] at hj
  rw [hcell j (by omega)]
  simp [List.getD_eq_getElem?_getD, List.getElem?_take_of_lt (show j < i by omega)]

set_option maxHeartbeats 1000000 in
theorem back_out (u : Value) (ss : List ByteArray) (cut : Int) (w : World) (hu : Strs w u ss) (hz : ∀ s ∈ ss, s.size ≤ 140737488351232) (hg : isGreat ss = false) (hc : cut < 0 ∨ (recsL ss).length < cut) : Calls Try.prog 5 #[u, .int .i64 cut] w (LawEnd w) := by
  obtain ⟨htot, hlen⟩ := not_great hg
  obtain ⟨p2, cap2, rfl, hp2⟩ := strs_shape hu
  have hgr : ∀ w1, Below w.heap.size w w1 → Calls Try.prog 11 #[.slice p2 ss.length cap2] w1 fun e w' => e = .returned (.bool false) ∧ w1 = w' := fun w1 hB => by
    have := great_any _ ss w1 (hu.below hB) hz
    rwa [hg] at this
  have hpt : ∀ w1, Below w.heap.size w w1 → Calls Try.prog 15 #[.slice none 0 0, .slice p2 ss.length cap2] w1 fun e w' => ∃ v', e = .returned v' ∧ BytsA w' v' (recsL ss) ∧ Below w1.heap.size w1 w' := fun w1 hB =>
    (put_any _ _ [] ss w1 (.inl ⟨rfl, rfl⟩) (hu.below hB) (by simp; omega)).mono fun e w' ⟨v', h1, h2, h3⟩ => ⟨v', h1, BytsA.ofRow h2, h3⟩
  have hsm : ∀ (v1 : Value) w1, Below w.heap.size w w1 → Strs w1 v1 ss → Calls Try.prog 18 #[v1, .slice p2 ss.length cap2] w1 fun e w' => e = .returned (.bool true) ∧ ∃ k, w' = w1.drewN k := fun v1 w1 hB h1 => strs_same _ _ ss w1 h1 (hu.below hB)
  have hsp := split_put ss (total_each ss htot)
  have hrl := recsL_le ss
  have Hgr := Lib.hid hgr
  have Hpt := Lib.hid hpt
  have Hsm := Lib.hid hsm
  have Hsp := Lib.hid hsp
  clear hgr hpt hsm hsp hu hz hp2 hg
  generalize hrr : recsL ss = r at *
  have hrn : r.length ≤ 8672 := by omega
  clear hrr hrl htot
  obtain ⟨n, hn⟩ : ∃ n, n = r.length := ⟨_, rfl⟩
  rw [← hn] at Hsp hrn hc
  have Hn := Lib.hid hn
  clear hn
  generalize ss.length = len at *
  go_enter Try.func5, Try.ntmps5
  go_wp2_with fail
  refine (alive_any _).mono ?_
  rintro e w1 ⟨rfl, hB1⟩
  go_wp2_with fail
  refine (Hgr.out _ hB1).mono ?_
  rintro e w2 ⟨rfl, rfl⟩
  go_wp2_with fail
  refine (Hpt.out _ hB1).mono ?_
  rintro e w2 ⟨v2, rfl, hv2, hB2⟩
  obtain ⟨p, cap, rfl⟩ := byts_shape hv2.byts
  have hB02 := hB1.trans (hB2.mono hB1.size)
  have hs := split_any _ r w2 hv2.byts (by have := Hn.out; omega)
  rw [Hsp.out] at hs
  rw [← Hn.out] at hs ⊢
  clear hB1 hB2 hv2
  go_wp2_with fail
  refine hs.mono ?_
  rintro e w3 ⟨hB3, v3, rfl, hv3⟩
  have hB03 := hB02.trans (hB3.mono hB02.size)
  have hsm := Hsm.out _ _ hB03 hv3
  clear hB02 hB3 hv3 hs
  go_wp2_with fail
  refine hsm.mono ?_
  rintro e w4 ⟨rfl, kq, rfl⟩
  clear hsm
  have hbn : ((n : Int) != (n : Int)) = false := by simp
  rcases hc with hc | hc
  · have h1 : decide (cut < 0) = true := by simpa using hc
    clear hc
    go_wp2_with fail
    go_ret
    exact ⟨rfl, below_drewN hB03 _⟩
  · have h1 : decide (cut < 0) = false := by simp; omega
    have h2 : decide ((n : Int) < cut) = true := by simpa using hc
    clear hc
    go_wp2_with fail
    go_ret
    exact ⟨rfl, below_drewN hB03 _⟩
set_option maxHeartbeats 1000000 in
theorem back_in (u : Value) (ss : List ByteArray) (cut : Nat) (w : World) (hu : Strs w u ss) (hz : ∀ s ∈ ss, s.size ≤ 140737488351232) (hg : isGreat ss = false) (hc : cut ≤ (recsL ss).length) : Calls Try.prog 5 #[u, .int .i64 cut] w (LawEnd w) := by
  obtain ⟨htot, hlen⟩ := not_great hg
  obtain ⟨p2, cap2, rfl, hp2⟩ := strs_shape hu
  have hgr : ∀ w1, Below w.heap.size w w1 → Calls Try.prog 11 #[.slice p2 ss.length cap2] w1 fun e w' => e = .returned (.bool false) ∧ w1 = w' := fun w1 hB => by
    have := great_any _ ss w1 (hu.below hB) hz
    rwa [hg] at this
  have hpt : ∀ w1, Below w.heap.size w w1 → Calls Try.prog 15 #[.slice none 0 0, .slice p2 ss.length cap2] w1 fun e w' => ∃ v', e = .returned v' ∧ BytsA w' v' (recsL ss) ∧ Below w1.heap.size w1 w' := fun w1 hB =>
    (put_any _ _ [] ss w1 (.inl ⟨rfl, rfl⟩) (hu.below hB) (by simp; omega)).mono fun e w' ⟨v', h1, h2, h3⟩ => ⟨v', h1, BytsA.ofRow h2, h3⟩
  have hsm : ∀ (v1 : Value) w1, Below w.heap.size w w1 → Strs w1 v1 ss → Calls Try.prog 18 #[v1, .slice p2 ss.length cap2] w1 fun e w' => e = .returned (.bool true) ∧ ∃ k, w' = w1.drewN k := fun v1 w1 hB h1 => strs_same _ _ ss w1 h1 (hu.below hB)
  have hsp := split_put ss (total_each ss htot)
  have hrl := recsL_le ss
  have hsu : ∀ (v1 : Value) i w1, Below w.heap.size w w1 → i < ss.length → Strs w1 v1 (ss.take i) → ∀ b off, p2 = some ⟨b, off, none⟩ → Calls Try.prog 18 #[v1, .slice (some ⟨b, off, none⟩) i cap2] w1 fun e w' => e = .returned (.bool true) ∧ ∃ k, w' = w1.drewN k := fun v1 i w1 hB hi h1 b off hp => by
    obtain ⟨b2, off2, hp3, hb, hcap, hmax, hcell⟩ := hp2 (by omega)
    rw [hp] at hp3
    cases hp3
    exact strs_same _ _ (ss.take i) w1 h1 ((strs_upto i (by omega) hcap hmax hb hcell).below hB)
  have hat : ∀ i, i < ss.length → (recsL (ss.take i)).length ≤ cut → cut < (recsL (ss.take i)).length + 8 + (ss.getD i ByteArray.empty).size → splitL ((recsL ss).take cut) = (ss.take i, (recsL (ss.take i)).length) := fun i h1 h2 h3 => cut_at ss i cut h1 (total_each ss htot) h2 h3
  have hnx : ∀ i, i < ss.length → (recsL (ss.take (i + 1))).length = (recsL (ss.take i)).length + (8 + (ss.getD i ByteArray.empty).size) := fun i hi => by
    rw [recsL_short ss i hi (total_each ss htot _ (by rw [List.getD_eq_getElem?_getD, List.getElem?_eq_getElem hi]; simp)), List.length_append, recL_len]
  have hsz : ∀ i, i < ss.length → (ss.getD i ByteArray.empty).size ≤ 8192 := fun i hi => by
    have := total_mem ss _ (show ss.getD i ByteArray.empty ∈ ss by rw [List.getD_eq_getElem?_getD, List.getElem?_eq_getElem hi]; simp)
    omega
  have hll : (recsL (ss.take ss.length)).length = (recsL ss).length := by rw [List.take_length]
  have Hsu := Lib.hid hsu
  have Hat := Lib.hid hat
  have Hnx := Lib.hid hnx
  have Hsz := Lib.hid hsz
  have Hll := Lib.hid hll
  have Hp2 := Lib.hid hp2
  have Hgr := Lib.hid hgr
  have Hpt := Lib.hid hpt
  have Hsm := Lib.hid hsm
  have Hsp := Lib.hid hsp
  clear hgr hpt hsm hsp hu hz hp2 hg hsu hat hnx hsz hll
  generalize hrr : recsL ss = r at *
  have hrn : r.length ≤ 8672 := by omega
  clear hrr hrl htot
  obtain ⟨n, hn⟩ : ∃ n, n = r.length := ⟨_, rfl⟩
  rw [← hn] at Hsp hrn hc Hll
  have Hn := Lib.hid hn
  clear hn
  generalize ss.length = len at *
  go_enter Try.func5, Try.ntmps5
  go_wp2_with fail
  refine (alive_any _).mono ?_
  rintro e w1 ⟨rfl, hB1⟩
  go_wp2_with fail
  refine (Hgr.out _ hB1).mono ?_
  rintro e w2 ⟨rfl, rfl⟩
  go_wp2_with fail
  refine (Hpt.out _ hB1).mono ?_
  rintro e w2 ⟨v2, rfl, hv2, hB2⟩
  obtain ⟨p, cap, rfl⟩ := byts_shape hv2.byts
  have hB02 := hB1.trans (hB2.mono hB1.size)
  have hup := byts_upto w2 p cap cut r hv2 (by have := Hn.out; omega)
  have hs := split_any _ r w2 hv2.byts (by have := Hn.out; omega)
  rw [Hsp.out] at hs
  rw [← Hn.out] at hs hup ⊢
  have Hub := Lib.hid hup.2
  have hur := hup.1
  clear hB1 hB2 hv2 hup
  go_wp2_with fail
  refine hs.mono ?_
  rintro e w3 ⟨hB3, v3, rfl, hv3⟩
  have hB03 := hB02.trans (hB3.mono hB02.size)
  have hsm := Hsm.out _ _ hB03 hv3
  have hub3 := Hub.out.below hB3
  clear hB02 hB3 hv3 hs Hub
  go_wp2_with fail
  refine hsm.mono ?_
  rintro e w4 ⟨rfl, kq, rfl⟩
  clear hsm
  have hbn : ((n : Int) != (n : Int)) = false := by simp
  have h1 : decide ((cut : Int) < 0) = false := by simp
  have h2 : decide ((n : Int) < (cut : Int)) = false := by simp; omega
  have hB04 := below_drewN hB03 kq
  have hs2 := split_any _ _ (w3.drewN kq) (hub3.below (below_drewN (Below.refl _ _) kq)) (by rw [List.length_take]; omega)
  have Hs2 := Lib.hid hs2
  clear hB03 hub3 hs2
  generalize w3.drewN kq = w4 at *
  go_wp2_with fail
  refine Hs2.out.mono ?_
  rintro e w5 ⟨hB5, v5, rfl, hv5⟩
  have hB05 := hB04.trans (hB5.mono hB04.size)
  clear hB04 hB5 Hs2
  have hB05s := hB05.size
  generalize hsk : splitL (r.take cut) = sk at *
  obtain ⟨ss5, k5⟩ := sk
  have Hsk := Lib.hid hsk
  have Hv5 := Lib.hid hv5
  clear hsk hv5 hur hbn
  dsimp only at Hv5
  go_wp2_with fail
  go_loop [10, 11, 12, 51] (fun at_ _ _ i => ∃ k : Nat, k ≤ len ∧ i = .int .i64 k ∧ at_ = .int .i64 ((recsL (ss.take k)).length : Nat) ∧ (recsL (ss.take k)).length ≤ cut) (fun _ _ _ i => len - (intOf i).toNat)
  case atStart => exact ⟨0, by omega, rfl, rfl, by simp [recsL]⟩
  case round =>
    obtain ⟨k, hk, rfl, rfl, hq⟩ := hrel
    by_cases hlt : k < len
    · obtain ⟨b, off, rfl, hb, hcap, hmax, hcell⟩ := Hp2.out (by omega)
      have hc1 : w5.cell? ⟨b, off + k, none⟩ = some (.string (ss.getD k ByteArray.empty)) := by rw [hB05.cell (p := ⟨b, off + k, none⟩) hb]; exact hcell k hlt
      have hsz1 := Hsz.out k hlt
      have hnx1 := Hnx.out k hlt
      have hat1 := fun h => Hat.out k hlt hq h
      generalize hL : (recsL (ss.take k)).length = L at *
      have HL := Lib.hid hL
      obtain ⟨s, hs⟩ : ∃ s, s = ss.getD k ByteArray.empty := ⟨_, rfl⟩
      rw [← hs] at hc1 hsz1 hnx1 hat1
      have Hnx1 := Lib.hid hnx1
      have Hat1 := Lib.hid hat1
      have hk8 : k ≤ cap2 := by omega
      have hc0 : ¬ cap2 = 0 := by omega
      have hk9 : (k : Int) ≤ (cap2 : Int) := by omega
      unfold maxLen at hmax
      clear hs hcell hL hnx1 hat1
      by_cases hend : cut < L + 8 + s.size
      · have h3 : decide ((cut : Int) < (L : Int) + 8 + (s.size : Int)) = true := by simp; omega
        have he := Hat1.out hend
        cases he
        have hsu := Hsu.out v5 k w5 hB05 hlt Hv5.out b off rfl
        have Hsu1 := Lib.hid hsu
        clear hsu Hsk
        go_wp2_with fail
        refine Hsu1.out.mono ?_
        rintro e w6 ⟨rfl, kq, rfl⟩
        clear Hsu1
        go_wp2_with fail
        go_ret
        exact ⟨rfl, below_drewN hB05 _⟩
      · have h3 : decide ((cut : Int) < (L : Int) + 8 + (s.size : Int)) = false := by simp; omega
        go_wp2_with fail
        refine ⟨⟨k + 1, by omega, by go_num, ?_, ?_⟩, by simp [intOf]; omega⟩
        · rw [Hnx1.out]; go_num
        · rw [Hnx1.out]; omega
    · obtain rfl : k = len := by omega
      have hll := Hll.out
      rw [hll] at hq ⊢
      have hcn : cut = n := by omega
      have hr : r.take cut = r := by rw [hcn, Hn.out, List.take_length]
      have he := Hsk.out
      rw [hr, Hsp.out] at he
      cases he
      have hsm1 := Hsm.out _ _ hB05 Hv5.out
      have Hsm1 := Lib.hid hsm1
      clear hsm1 Hsk hll hr hcn
      go_wp2_with fail
      refine Hsm1.out.mono ?_
      rintro e w6 ⟨rfl, kq, rfl⟩
      clear Hsm1
      go_wp2_with fail
      go_ret
      exact ⟨rfl, below_drewN hB05 _⟩

theorem back_walk (u : Value) (ss : List ByteArray) (cut : Int) (w : World) (hu : Strs w u ss) (hz : ∀ s ∈ ss, s.size ≤ 140737488351232) : Calls Try.prog 5 #[u, .int .i64 cut] w (LawEnd w) := by
  cases hg : isGreat ss with
  | true => exact great_law5 u ss cut w hu hz hg
  | false =>
    by_cases hc : cut < 0 ∨ (recsL ss).length < cut
    · exact back_out u ss cut w hu hz hg hc
    · obtain ⟨k, rfl⟩ : ∃ k : Nat, cut = k := ⟨cut.toNat, by omega⟩
      exact back_in u ss k w hu hz hg (by omega)

end Go.Proofs.Ytcbddkncaeancaa
