/- Walks: the statement FrameTurned. -/
import Derived.Test.YtcbddkncaeancaaWn
namespace Go.Proofs.Ytcbddkncaeancaa
set_option linter.unusedVariables false
open Go.ChangeShapes Go.WideShapes Go.ChangeAt Go.RowKit

set_option maxHeartbeats 400000 in
theorem turned_none (u : Value) (ss : List ByteArray) (s : ByteArray) (i c : Int) (w : World) (hu : Strs w u ss) (hz : ∀ s ∈ ss, s.size ≤ 140737488351232) (hs : s.size ≤ 140737488351232) (hg : isGreat ss = true ∨ 1024 < s.size ∨ c = 0) : Calls Try.prog 6 #[u, .string s, .int .i64 i, .int .u8 c] w (LawEnd w) := by
  have hgr : ∀ w1, Below w.heap.size w w1 → Calls Try.prog 11 #[u] w1 fun e w' => e = .returned (.bool (isGreat ss)) ∧ w1 = w' := fun w1 hB => great_any u ss w1 (hu.below hB) hz
  have Hgr := Lib.hid hgr
  clear hgr hu hz
  generalize isGreat ss = g at *
  go_enter Try.func6, Try.ntmps6
  go_wp2_with fail
  refine (alive_any _).mono ?_
  rintro e w1 ⟨rfl, hB1⟩
  go_wp2_with fail
  refine (Hgr.out _ hB1).mono ?_
  rintro e w2 ⟨rfl, rfl⟩
  cases g with
  | true =>
    clear hg
    go_wp2_with fail
    go_ret
    exact ⟨rfl, hB1⟩
  | false =>
    cases h1 : decide ((1024 : Int) < (s.size : Int)) with
    | true =>
      clear hg
      go_wp2_with fail
      go_ret
      exact ⟨rfl, hB1⟩
    | false =>
      obtain rfl : c = 0 := by
        have := of_decide_eq_false h1
        rcases hg with h | h | h
        · cases h
        · omega
        · exact h
      clear hg
      go_wp2_with fail
      go_ret
      exact ⟨rfl, hB1⟩

theorem one_str (w : World) (a : ByteArray) (t : TypeId) : Strs (w.alloc (.cells #[.string a] t)) (.slice (some ⟨w.heap.size, 0, none⟩) 1 1) [a] := by
  refine .inr ⟨w.heap.size, 0, 1, rfl, by simp, by unfold maxLen; omega, by simp, fun i hi => ?_⟩
  rw [Nat.zero_add, World.cell?_alloc_at _ _ _ _ rfl]
  simp at hi
  subst hi
  simp

theorem wrap_u64_nat (n : Int) : IntKind.u64.wrap n = ((n % 18446744073709551616).toNat : Int) := by
  have : IntKind.u64.wrap n = n % 18446744073709551616 := by simp [IntKind.wrap, IntKind.bits, IntKind.signed]
  rw [this]; omega

set_option maxHeartbeats 1000000 in
theorem turned_some (u : Value) (ss : List ByteArray) (s : ByteArray) (i : Int) (c : Nat) (w : World) (hu : Strs w u ss) (hz : ∀ s ∈ ss, s.size ≤ 140737488351232) (hs : s.size ≤ 1024) (hc : 0 < c) (hc2 : c < 256) (hg : isGreat ss = false) : Calls Try.prog 6 #[u, .string s, .int .i64 i, .int .u8 c] w (LawEnd w) := by
  obtain ⟨htot, hlen⟩ := not_great hg
  have hgr : ∀ w1, Below w.heap.size w w1 → Calls Try.prog 11 #[u] w1 fun e w' => e = .returned (.bool false) ∧ w1 = w' := fun w1 hB => by
    have := great_any _ ss w1 (hu.below hB) hz
    rwa [hg] at this
  have hpt : ∀ w1, Below w.heap.size w w1 → Calls Try.prog 15 #[.slice none 0 0, u] w1 fun e w' => ∃ v', e = .returned v' ∧ BytsA w' v' (recsL ss) ∧ Below w1.heap.size w1 w' := fun w1 hB =>
    (put_any _ _ [] ss w1 (.inl ⟨rfl, rfl⟩) (hu.below hB) (by simp; omega)).mono fun e w' ⟨v', h1, h2, h3⟩ => ⟨v', h1, BytsA.ofRow h2, h3⟩
  have hsm : ∀ (v1 : Value) w1, Below w.heap.size w w1 → Strs w1 v1 ss → Calls Try.prog 18 #[v1, u] w1 fun e w' => e = .returned (.bool true) ∧ ∃ k, w' = w1.drewN k := fun v1 w1 hB h1 => strs_same _ _ ss w1 h1 (hu.below hB)
  have hrl := recsL_le ss
  have hrc : recsL [s] = recL s := by
    show recP s ++ [] = recL s
    rw [List.append_nil, recP_fits (by omega)]
  have hrcl := recL_len s
  have hsp : ∀ t, wholeL t = none → splitL (recsL ss ++ t) = (ss, (recsL ss).length) := fun t ht => split_recs ss t (total_each ss htot) ht
  have Hgr := Lib.hid hgr
  have Hpt := Lib.hid hpt
  have Hsm := Lib.hid hsm
  have Hsp := Lib.hid hsp
  have Hrc := Lib.hid hrc
  clear hgr hpt hsm hsp hrc hu hz hg
  generalize recsL ss = r at *
  have hrn : r.length ≤ 8672 := by omega
  clear hrl htot
  obtain ⟨n, hn⟩ : ∃ n, n = r.length := ⟨_, rfl⟩
  rw [← hn] at Hsp hrn
  have Hn := Lib.hid hn
  clear hn
  have h1 : decide ((1024 : Int) < (s.size : Int)) = false := by simp; omega
  have h2 : ((c : Int) == 0) = false := by simp; omega
  go_enter Try.func6, Try.ntmps6
  go_wp2_with fail
  refine (alive_any _).mono ?_
  rintro e w1 ⟨rfl, hB1⟩
  go_wp2_with fail
  refine (Hgr.out _ hB1).mono ?_
  rintro e w2 ⟨rfl, rfl⟩
  go_wp2_with fail
  refine (Hpt.out _ hB1).mono ?_
  rintro e w2 ⟨v2, rfl, hv2, hB2⟩
  obtain ⟨p, cap, rfl⟩ := byts_shape hv2.byts
  have hB02 := hB1.trans (hB2.mono hB1.size)
  have hp2 := put_any _ _ r [s] (w2.alloc (.cells #[.string s] 9)) (hv2.below ((Below.refl _ w2).alloc (Nat.le_refl _) _)) (one_str w2 s 9) (by have := Hn.out; simp [total]; omega)
  rw [Hrc.out] at hp2
  rw [← Hn.out] at hp2 ⊢
  have Hp2 := Lib.hid hp2
  clear hB1 hB2 hv2 hp2
  go_wp2_with fail
  refine Hp2.out.mono ?_
  clear Hp2
  rintro e w3 ⟨v3, rfl, hown, hB3⟩
  have hB03 : Below w.heap.size w w3 := (hB02.alloc hB02.size _).trans (hB3.mono (by have := hB02.size; simp; omega))
  obtain ⟨tl, htl⟩ : ∃ tl, tl = (r ++ recL s).length := ⟨_, rfl⟩
  have htl2 : tl = n + (8 + s.size) := by rw [htl, List.length_append, hrcl, ← Hn.out]
  rw [← htl] at hown
  have Htl := Lib.hid htl
  obtain ⟨x, hx⟩ : ∃ x : Nat, IntKind.u64.wrap i = (x : Int) := ⟨_, wrap_u64_nat i⟩
  obtain ⟨m, hm⟩ : ∃ m, m = 8 + s.size := ⟨_, rfl⟩
  rw [← hm] at htl2
  have hsub : (tl : Int) - (n : Int) = (m : Int) := by omega
  obtain ⟨y, hyy⟩ : ∃ y, y = x % m := ⟨_, rfl⟩
  have hy : (x : Int).tmod (m : Int) = (y : Int) := by rw [hyy]; rfl
  have hym : y < m := by rw [hyy]; exact Nat.mod_lt _ (by omega)
  obtain ⟨q, hqq⟩ : ∃ q, q = n + y := ⟨_, rfl⟩
  have hat : (n : Int) + (y : Int) = (q : Int) := by omega
  have hqt : q < tl := by omega
  have hqtI : (q : Int) < (tl : Int) := by omega
  have htlb : tl ≤ 10000 := by omega
  have hm1 : m ≤ 1032 := by omega
  have hntl : n < tl := by omega
  have Hm := Lib.hid hm
  have Hqq := Lib.hid hqq
  have Htl2 := Lib.hid htl2
  clear htl hyy hqq hm htl2
  rcases hown.2 with ⟨_, h0⟩ | ⟨g, cap3, cur, rfl, hg3, hblk, hcap3, hmax3, hcur3, htake⟩
  · omega
  · obtain ⟨L, hL⟩ : ∃ L, L = r ++ recL s := ⟨_, rfl⟩
    rw [← hL] at htake
    have hLt : L.length = tl := by rw [hL, ← Htl.out]
    have hcc : ∀ j, j < tl → cur[j]? = some (.int .u8 (L.getD j 0).toNat) := fun j hj => by
      have e : (cur.toList.take (tl * 1))[j]? = (cellsL L)[j]? := by rw [htake]
      rw [List.getElem?_take_of_lt (by omega), cellsL, List.getElem?_map, List.getElem?_eq_getElem (show j < L.length by omega)] at e
      simpa [List.getD, show j < L.length by omega] using e
    have hcell : w3.cell? ⟨g, q, none⟩ = some (.int .u8 (L.getD q 0).toNat) := by rw [block_cell hblk]; exact hcc q hqt
    have hfz : w3.frozen? ⟨g, q, none⟩ = false := block_free hblk q
    have hxor : bits BinOp.xor IntKind.u8 ((L.getD q 0).toNat : Int) (c : Int) = (((L.getD q 0).toNat ^^^ c : Nat) : Int) := u8_xor_nat _ _ (L.getD q 0).toNat_lt hc2
    have hxl : (L.getD q 0).toNat ^^^ c < 256 := Nat.xor_lt_two_pow (n := 8) (L.getD q 0).toNat_lt hc2
    obtain ⟨l2, hl2⟩ : ∃ l2, l2 = L.set q (UInt8.ofNat ((L.getD q 0).toNat ^^^ c)) := ⟨_, rfl⟩
    have hl2s : l2.length = tl := by rw [hl2, List.length_set, hLt]
    obtain ⟨w4, hw4⟩ : ∃ w4, w4 = w3.setCell ⟨g, q, none⟩ (.int .u8 (((L.getD q 0).toNat ^^^ c : Nat) : Int)) := ⟨_, rfl⟩
    have hblk4 : w4.heap[g]? = some (.cells (cur.setIfInBounds q (.int .u8 (((L.getD q 0).toNat ^^^ c : Nat) : Int))) 5 (0, 0)) := by rw [hw4]; exact block_set hblk
    have hc4 : ∀ j, j < tl → w4.cell? ⟨g, j, none⟩ = some (.int .u8 (l2.getD j 0).toNat) := fun j hj => by
      rw [block_cell hblk4, Array.getElem?_setIfInBounds]
      by_cases hqj : q = j
      · subst hqj
        have hqc : q < cur.size := (Array.getElem?_eq_some_iff.1 (hcc q hqt)).1
        rw [if_pos rfl, if_pos hqc]
        have : q < L.length := by omega
        simp [hl2, UInt8.toNat_ofNat', List.getD, this, Nat.mod_eq_of_lt hc2]
      · rw [if_neg hqj, hcc j hj]
        simp [hl2, List.getD, List.getElem?_set_ne hqj]
    have hbyt : BytsA w4 (.slice (some ⟨g, 0, none⟩) tl cap3) l2 :=
      .inr (.inr ⟨g, 0, cap3, by rw [hl2s], by omega, hmax3, lt_of_block hblk4, fun j hj => by rw [Nat.zero_add]; exact hc4 j (by omega)⟩)
    have hgw : (w.heap.size : Nat) ≤ g := by have := hB02.size; simp at hg3; omega
    have hB4 : Below w.heap.size w3 w4 := by rw [hw4]; exact (Below.refl w.heap.size w3).setCell (p := ⟨g, q, none⟩) hgw _
    have hB04 := hB03.trans hB4
    have hdrop : l2 = r ++ l2.drop n := by
      have h1 : l2.take n = r := by
        rw [hl2, List.take_set_of_le (by have := Hqq.out; omega), hL, List.take_left' Hn.out.symm]
      conv => lhs; rw [← List.take_append_drop n l2, h1]
    have hwf := refWhole_any (mkB (l2.drop n)) w4 (by rw [mkB_size, List.length_drop, hl2s]; omega)
    rw [mkB_toList] at hwf
    have hcv : (convert 22 9 (.slice (some ⟨g, n, none⟩) (tl - n) (cap3 - n))).run Try.prog w4 = .ok (.string (mkB (l2.drop n))) w4 := by
      have e : tl - n = (l2.drop n).length := by rw [List.length_drop, hl2s]
      rw [e]
      exact run_convert_bytes_back w4 22 9 5 ⟨g, n, none⟩ _ (l2.drop n) Try.underlying22 Try.underlying5 Try.underlying9 (fun j hj => by
        rw [List.length_drop] at hj
        rw [add_none, hc4 (n + j) (by omega), List.getElem_drop]
        simp [List.getD, show n + j < l2.length by omega])
    have hs4 := split_any _ l2 w4 hbyt.byts (by omega)
    have hend : wholeL (l2.drop n) = none → splitL l2 = (ss, n) := fun h => by rw [hdrop]; exact Hsp.out _ h
    rw [hw4, ← hxor] at hcv hwf
    have Hwf := Lib.hid hwf
    have Hs4 := Lib.hid hs4
    have Hend := Lib.hid hend
    have Hw4 := Lib.hid hw4
    have Hxor := Lib.hid hxor
    have Hby := Lib.hid hbyt
    have hcap3n : ¬ cap3 = n := by omega
    have hntlI : (n : Int) ≤ (tl : Int) := by omega
    generalize (L.getD q 0).toNat = b at *
    generalize mkB (l2.drop n) = mk at *
    clear hc4 hdrop hwf hs4 hend hw4 hbyt hblk4 hl2s hl2 hxl hcc hLt hL htake hcur3 hblk hown hB3 hB4 hxor hg3 hgw
    unfold maxLen at hmax3
    go_wp2_with fail
    have hwf2 := Hwf.out
    rw [Hxor.out, ← Hw4.out] at hwf2 ⊢
    clear Hwf hcv hcell hfz
    refine hwf2.mono ?_
    rintro e w5 ⟨hB5, hr⟩
    have hB05 := hB04.trans (hB5.mono hB04.size)
    cases hwo : wholeL (l2.drop n) with
    | some sw =>
      rw [hwo] at hr
      obtain rfl := hr
      clear hwo hwf2 hB5
      go_wp2_with fail
      go_ret
      exact ⟨rfl, hB05⟩
    | none =>
      rw [hwo] at hr
      obtain ⟨tw, rfl⟩ := hr
      have hsp2 := Hend.out hwo
      have hs5 := split_any _ l2 w5 (Hby.out.below hB5).byts (by
        obtain ⟨p9, c9, h9⟩ := byts_shape Hby.out.byts
        cases h9
        omega)
      rw [hsp2] at hs5
      have Hs5 := Lib.hid hs5
      clear hwo hwf2 hB5 hsp2 hs5
      go_wp2_with fail
      refine Hs5.out.mono ?_
      rintro e w6 ⟨hB6, v6, rfl, hv6⟩
      have hB06 := hB05.trans (hB6.mono hB05.size)
      have hsm := Hsm.out _ _ hB06 hv6
      have Hsm6 := Lib.hid hsm
      clear hB6 hv6 hsm Hs5
      go_wp2_with fail
      refine Hsm6.out.mono ?_
      rintro e w7 ⟨rfl, kq, rfl⟩
      clear Hsm6
      go_wp2_with fail
      go_ret
      exact ⟨rfl, below_drewN hB06 _⟩

theorem turned_walk (u : Value) (ss : List ByteArray) (s : ByteArray) (i c : Int) (w : World) (hu : Strs w u ss) (hz : ∀ s ∈ ss, s.size ≤ 140737488351232) (hs : s.size ≤ 140737488351232) (hc : (Lit.int .u8 c).wf = true) : Calls Try.prog 6 #[u, .string s, .int .i64 i, .int .u8 c] w (LawEnd w) := by
  have hcb := wf_u8 hc
  by_cases hg : isGreat ss = true ∨ 1024 < s.size ∨ c = 0
  · exact turned_none u ss s i c w hu hz hs hg
  · obtain ⟨d, rfl⟩ : ∃ d : Nat, c = d := ⟨c.toNat, by omega⟩
    exact turned_some u ss s i d w hu hz (by omega) (by omega) (by omega) (by cases h : isGreat ss with | true => exact absurd (.inl h) hg | false => rfl)
end Go.Proofs.Ytcbddkncaeancaa
