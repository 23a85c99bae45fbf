/- Walks: the statement DiskFull. -/
import Derived.Test.YtfmcemedaehcoaaWs
import Derived.Test.YtfmcemedaehcoaaWq
import Derived.OwnWalk
namespace Go.Proofs.Ytfmcemedaehcoaa
set_option linter.unusedVariables false
set_option linter.unusedSimpArgs false
open Go.ChangeShapes Go.WideShapes Go.ChangeAt Go.RowKit Go.ChangeMaps Go.Sort

/-- What Names answers of a device. -/
structure NamesA (w : World) (A : List Ab) (e : Ending) (w' : World) : Prop where
  e : ∃ (v : Value) (ss : List (List UInt8)), e = .returned v ∧ ss.Perm (A.map fun y => nmL y.1) ∧ w'.ownsRow w.heap.size 9 1 v A.length ((ss.mergeSort fun x y => decide (x ≤ y)).map encStr)
  b : Below w.heap.size w w'
theorem namesA {B n b : Nat} {h : Hd} {A : List Ab} {w : World} (d : DA B n b h A w) (hn : A.length ≤ 1048576) : Calls Try.prog 20 #[.pointer (some ⟨b, 0, none⟩)] w (NamesA w A) := by
  obtain ⟨S, L, rfl, h2, h3⟩ := d.e
  refine (names_any h2 (by simpa using hn)).mono fun e w' r => ?_
  obtain ⟨v, ss, h1, h2, h3⟩ := r.e
  refine ⟨⟨v, ss, h1, ?_, ?_⟩, r.b⟩
  · rw [List.map_map]; exact h2
  · rw [List.length_map]; exact h3
theorem own_slice9 {w : World} {base : Nat} {v : Value} {n : Nat} {xs : List Value} (h : w.ownsRow base 9 1 v n xs) : ∃ p c, v = .slice p n c := by
  rcases h.2 with ⟨hv, hn⟩ | ⟨g, cap, cur, hv, _⟩
  · exact ⟨_, _, by rw [hv, hn]⟩
  · exact ⟨_, _, hv⟩
def Z (n : Nat) : List UInt8 := List.replicate n 0
theorem Z_len (n : Nat) : (Z n).length = n := List.length_replicate
theorem made_zero (n : Nat) : (madeCells (Value.int .u8 0).cells (n * 1)).toList = LF bV (Z n) := by
  rw [LF_bV]
  unfold madeCells Z
  apply List.ext_getElem?
  intro i
  by_cases hi : i < n
  · simp [hi, Value.cells, Nat.mod_one]
  · rw [List.getElem?_eq_none (by simp; omega), List.getElem?_eq_none (by simp; omega)]
/-- Zeros that were just made. -/
theorem made_byt {B n : Nat} {w w' : World} {k : Nat} (h : w'.ownsRow 0 5 1 (.slice (some ⟨w.heap.size, 0, none⟩) k k) k (madeCells (Value.int .u8 0).cells (k * 1)).toList) (hn : n ≤ w.heap.size) : Byt (In B n) w' (.slice (some ⟨w.heap.size, 0, none⟩) k k) (Z k) := by
  rw [made_zero] at h
  refine LAt.byt (LAt.own (fun x _ => bV_len x) (by rw [Z_len]; exact h)) (fun g hg => ?_)
  obtain rfl : w.heap.size = g := by simpa [Value.ownBlock] using hg
  intro hh; have := hh.2; omega
theorem grown_below {w w' : World} (hg : w.grownBy w' none) : Below w.heap.size w w' := ⟨hg.os, hg.tape, hg.output, hg.size, fun k hk => hg.block k hk (by simp)⟩
theorem step_pre {h : Hd} {A A1 : List Ab} {pre stays a : Int} (hp : pre = a) (ha : a ≠ 0) : stepA h A A1 pre stays = (a, h, A) := by
  subst hp
  unfold stepA
  rw [if_pos ha]
theorem pre_full {r : Int} {a : Int} {b : Nat} (h : r = 0) (hl : a < (b : Int)) : (if r ≠ 0 then r else if a < (b : Nat) then 6 else 0) = 6 := by
  rw [if_neg (by simp [h]), if_pos hl]
theorem byt_one {B n : Nat} {w : World} (x : UInt8) (hn : n ≤ w.heap.size) : Byt (In B n) (w.alloc (.cells #[.int .u8 x.toNat] 5)) (.slice (some ⟨w.heap.size, 0, none⟩) 1 1) [x] := by
  have h : (w.alloc (.cells #[.int .u8 x.toNat] 5)).heap[w.heap.size]? = some (.cells (LF bV [x]).toArray 5 (0, 0)) := heap_alloc_new _ _
  exact row_byt [x] h (by simp) (by unfold maxLen; simp) hn
theorem newH_in {r : Int} (h : 0 ≤ r ∧ r ≤ 1048576) : newH r = ⟨r, 0, false, 0, 0, false⟩ := by
  unfold newH
  rw [show min (max r 0) 1048576 = r by omega]
theorem full_out (r f : Int) (w : World) (hg : r < 0 ∨ 4096 < r ∨ f < 0 ∨ r < f) : Calls Try.prog 6 #[.int .i64 r, .int .i64 f] w (LawEnd w) := by
  have HA := Lib.hid (alive_any w)
  by_cases h1 : r < 0
  · have g1 : decide (r < 0) = true := decide_eq_true h1
    go_enter Try.func6, Try.ntmps6
    go_wp2_with fail
    refine HA.out.mono ?_
    rintro e w0 ⟨rfl, hb⟩
    have B0 := Lib.hid hb
    clear hb
    go_wp2_with fail
    go_ret
    exact ⟨rfl, B0.out⟩
  have g1 : decide (r < 0) = false := decide_eq_false h1
  by_cases h2 : 4096 < r
  · have g2 : decide (4096 < r) = true := decide_eq_true h2
    go_enter Try.func6, Try.ntmps6
    go_wp2_with fail
    refine HA.out.mono ?_
    rintro e w0 ⟨rfl, hb⟩
    have B0 := Lib.hid hb
    clear hb
    go_wp2_with fail
    go_ret
    exact ⟨rfl, B0.out⟩
  have g2 : decide (4096 < r) = false := decide_eq_false h2
  by_cases h3 : f < 0
  · have g3 : decide (f < 0) = true := decide_eq_true h3
    go_enter Try.func6, Try.ntmps6
    go_wp2_with fail
    refine HA.out.mono ?_
    rintro e w0 ⟨rfl, hb⟩
    have B0 := Lib.hid hb
    clear hb
    go_wp2_with fail
    go_ret
    exact ⟨rfl, B0.out⟩
  have g3 : decide (f < 0) = false := decide_eq_false h3
  have g4 : decide (r < f) = true := decide_eq_true (by omega)
  go_enter Try.func6, Try.ntmps6
  go_wp2_with fail
  refine HA.out.mono ?_
  rintro e w0 ⟨rfl, hb⟩
  have B0 := Lib.hid hb
  clear hb
  go_wp2_with fail
  go_ret
  exact ⟨rfl, B0.out⟩
set_option maxRecDepth 100000 in
set_option maxHeartbeats 2000000 in
theorem full_in (m k : Nat) (w : World) (hm : m + k ≤ 4096) (r f : Int) (hr : r = (m + k : Nat)) (hf : f = (m : Nat)) : Calls Try.prog 6 #[.int .i64 r, .int .i64 f] w (LawEnd w) := by
  have HA := Lib.hid (alive_any w)
  have g1 : decide (r < 0) = false := decide_eq_false (by omega)
  have g2 : decide (4096 < r) = false := decide_eq_false (by omega)
  have g3 : decide (f < 0) = false := decide_eq_false (by omega)
  have g4 : decide (r < f) = false := decide_eq_false (by omega)
  have b1 : 0 ≤ f := by omega
  have b2 : f ≤ r := by omega
  have b3 : r ≤ 4096 := by omega
  have HR := Lib.hid hr
  have HF := Lib.hid hf
  have hrr : 0 ≤ r ∧ r ≤ 1048576 := by omega
  have HN := Lib.hid (newH_in hrr)
  have T1 : Hid (totA [(AA, Z m, 0)] = m) := Lib.hid (by simp [totA, Z_len])
  have T2 : Hid (totA [(AA, Z m, 0), (BB, Z k, 0)] = m + k) := Lib.hid (by simp [totA, Z_len])
  have E1 := Lib.hid (show stepA ⟨r, 0, false, 0, 0, false⟩ [] (apdA [] AA (Z m)) (if readyE ⟨r, 0, false, 0, 0, false⟩ AA ≠ 0 then readyE ⟨r, 0, false, 0, 0, false⟩ AA else if (⟨r, 0, false, 0, 0, false⟩ : Hd).room - (totA [] : Nat) < (((Z m) : List UInt8).length : Nat) then 6 else 0) 0 = (0, ⟨r, 1, false, 0, 0, false⟩, [(AA, Z m, 0)]) from (step_ok (pre_ok (by kernel_rfl) (by show ((Z m).length : Int) ≤ r - ((0 : Nat) : Int); rw [Z_len]; omega)) (by show (0 : Int) ≠ 1; decide)).trans (by kernel_rfl))
  have E2 := Lib.hid (show stepA ⟨r, 1, false, 0, 0, false⟩ [(AA, Z m, 0)] (apdA [(AA, Z m, 0)] BB (Z (k + 1))) (if readyE ⟨r, 1, false, 0, 0, false⟩ BB ≠ 0 then readyE ⟨r, 1, false, 0, 0, false⟩ BB else if (⟨r, 1, false, 0, 0, false⟩ : Hd).room - (totA [(AA, Z m, 0)] : Nat) < (((Z (k + 1)) : List UInt8).length : Nat) then 6 else 0) 0 = (6, ⟨r, 1, false, 0, 0, false⟩, [(AA, Z m, 0)]) from step_pre (pre_full (by kernel_rfl) (by show r - (totA [(AA, Z m, 0)] : Nat) < ((Z (k + 1)).length : Nat); rw [Z_len, T1.out]; omega)) (by decide))
  have E3 := Lib.hid (show stepA ⟨r, 1, false, 0, 0, false⟩ [(AA, Z m, 0)] (apdA [(AA, Z m, 0)] BB (Z k)) (if readyE ⟨r, 1, false, 0, 0, false⟩ BB ≠ 0 then readyE ⟨r, 1, false, 0, 0, false⟩ BB else if (⟨r, 1, false, 0, 0, false⟩ : Hd).room - (totA [(AA, Z m, 0)] : Nat) < (((Z k) : List UInt8).length : Nat) then 6 else 0) 0 = (0, ⟨r, 2, false, 0, 0, false⟩, [(AA, Z m, 0), (BB, Z k, 0)]) from (step_ok (pre_ok (by kernel_rfl) (by show ((Z k).length : Int) ≤ r - (totA [(AA, Z m, 0)] : Nat); rw [Z_len, T1.out]; omega)) (by show (0 : Int) ≠ 1; decide)).trans (by kernel_rfl))
  have E4 := Lib.hid (show stepA ⟨r, 2, false, 0, 0, false⟩ [(AA, Z m, 0), (BB, Z k, 0)] (apdA [(AA, Z m, 0), (BB, Z k, 0)] AA []) (if readyE ⟨r, 2, false, 0, 0, false⟩ AA ≠ 0 then readyE ⟨r, 2, false, 0, 0, false⟩ AA else if (⟨r, 2, false, 0, 0, false⟩ : Hd).room - (totA [(AA, Z m, 0), (BB, Z k, 0)] : Nat) < (([] : List UInt8).length : Nat) then 6 else 0) 0 = (0, ⟨r, 3, false, 0, 0, false⟩, [(AA, Z m, 0), (BB, Z k, 0)]) from (step_ok (pre_ok (by kernel_rfl) (by show (0 : Int) ≤ r - (totA [(AA, Z m, 0), (BB, Z k, 0)] : Nat); rw [T2.out]; omega)) (by show (0 : Int) ≠ 1; decide)).trans (by simp only [apdA, show lookA [(AA, Z m, 0), (BB, Z k, 0)] AA = some (AA, Z m, 0) from rfl, List.append_nil]; rfl))
  have E5 := Lib.hid (show stepA ⟨r, 3, false, 0, 0, false⟩ [(AA, Z m, 0), (BB, Z k, 0)] (apdA [(AA, Z m, 0), (BB, Z k, 0)] AA [1]) (if readyE ⟨r, 3, false, 0, 0, false⟩ AA ≠ 0 then readyE ⟨r, 3, false, 0, 0, false⟩ AA else if (⟨r, 3, false, 0, 0, false⟩ : Hd).room - (totA [(AA, Z m, 0), (BB, Z k, 0)] : Nat) < (([1] : List UInt8).length : Nat) then 6 else 0) 0 = (6, ⟨r, 3, false, 0, 0, false⟩, [(AA, Z m, 0), (BB, Z k, 0)]) from step_pre (pre_full (by kernel_rfl) (by show r - (totA [(AA, Z m, 0), (BB, Z k, 0)] : Nat) < (1 : Nat); rw [T2.out]; omega)) (by decide))
  obtain ⟨i0, z0, hi, hz0, hz1, hz2, _⟩ := eltB.inf
  have hzz : z0 = .int .u8 0 := by
    have e : (Try.prog.info? 5).bind (·.zero) = some (.int .u8 0) := by kernel_rfl
    rw [hi] at e
    simp only [Option.bind_some] at e
    rw [hz0] at e
    exact Option.some.inj e
  clear hr hf
  go_enter Try.func6, Try.ntmps6
  go_wp2_with fail
  refine HA.out.mono ?_
  rintro e w0 ⟨rfl, hb⟩
  have B0 := Lib.hid hb
  clear hb
  go_wp2_with fail
  refine (newA r _).mono ?_
  rintro e w1 ⟨rfl, d, hb⟩
  rw [HN.out] at d
  have D1 := Lib.hid d
  have B1 := Lib.hid hb
  have M1 := Lib.hid hb.size
  clear d hb
  go_wp2_with (first | (at_make; refine wpList_make_full _ rfl _ _ 29 rfl 0 5 i0 z0 1 Try.underlying29 hi hz0 hz1 .i64 .i64 _ _ (m) rfl rfl HF.out HF.out (by rw [hz2]; omega) (by unfold maxLen; omega) (Nat.zero_le _) ?_; intro wa ho1 hg1; rw [hzz] at ho1; have Hy := Lib.hid (made_byt (B := w0.heap.size) ho1 D1.out.n); have hba := grown_below hg1; have hda := D1.out.below hba; clear ho1 hg1))
  refine (appendA hda M1.out ⟨⟨by show (0 : Int) ≤ r; omega, by show r ≤ 1048576; omega⟩, by show (0 : Int) ≤ 0 ∧ (0 : Int) ≤ 9223372036854775807; decide, by show (0 : Int) ≤ 0 ∧ (0 : Int) ≤ 1099511627776; decide⟩ (by decide) (by simp) AA _ (Z m) Hy.out (by rw [Z_len]; omega)).mono ?_
  intro e w2 h9
  obtain ⟨rfl, d, hk⟩ := h9.to E1.out
  have D2 := Lib.hid d
  have B2 := Lib.hid ((B1.out.trans (hba.mono B1.out.size)).trans (hk.below (fun k hk => hk.1) (Nat.le_trans B1.out.size hba.size)))
  have M2 := Lib.hid B2.out.size
  clear d hk hba hda Hy
  go_wp2_with (first | (at_make; refine wpList_make_full _ rfl _ _ 29 rfl 0 5 i0 z0 1 Try.underlying29 hi hz0 hz1 .i64 .i64 _ _ (k + 1) rfl rfl (by have := HR.out; have := HF.out; omega) (by have := HR.out; have := HF.out; omega) (by rw [hz2]; omega) (by unfold maxLen; omega) (Nat.zero_le _) ?_; intro wa ho1 hg1; rw [hzz] at ho1; have Hy := Lib.hid (made_byt (B := w0.heap.size) ho1 D2.out.n); have hba := grown_below hg1; have hda := D2.out.below hba; clear ho1 hg1))
  refine (appendA hda M2.out ⟨⟨by show (0 : Int) ≤ r; omega, by show r ≤ 1048576; omega⟩, by show (0 : Int) ≤ 0 ∧ (0 : Int) ≤ 9223372036854775807; decide, by show (0 : Int) ≤ 1 ∧ (1 : Int) ≤ 1099511627776; decide⟩ (by rw [T1.out]; omega) (by simp) BB _ (Z (k + 1)) Hy.out (by rw [Z_len]; omega)).mono ?_
  intro e w3 h9
  obtain ⟨rfl, d, hk⟩ := h9.to E2.out
  have D3 := Lib.hid d
  have B3 := Lib.hid ((B2.out.trans (hba.mono B2.out.size)).trans (hk.below (fun k hk => hk.1) (Nat.le_trans B2.out.size hba.size)))
  have M3 := Lib.hid B3.out.size
  clear d hk hba hda Hy
  go_wp2_with fail
  refine (namesA D3.out (by simp)).mono ?_
  intro e w4 h9
  obtain ⟨v4, ss, rfl, _, ho⟩ := h9.e
  have hb := h9.b
  obtain ⟨p4, c4, rfl⟩ := own_slice9 ho
  have D4 := Lib.hid (D3.out.below hb)
  have B4 := Lib.hid (B3.out.trans (hb.mono B3.out.size))
  have M4 := Lib.hid M3.out
  clear hb ho h9
  rw [show List.length [(AA, Z m, 0)] = 1 from rfl]
  go_wp2_with (first | (at_make; refine wpList_make_full _ rfl _ _ 29 rfl 0 5 i0 z0 1 Try.underlying29 hi hz0 hz1 .i64 .i64 _ _ (k) rfl rfl (by have := HR.out; have := HF.out; omega) (by have := HR.out; have := HF.out; omega) (by rw [hz2]; omega) (by unfold maxLen; omega) (Nat.zero_le _) ?_; intro wa ho1 hg1; rw [hzz] at ho1; have Hy := Lib.hid (made_byt (B := w0.heap.size) ho1 D4.out.n); have hba := grown_below hg1; have hda := D4.out.below hba; clear ho1 hg1))
  refine (appendA hda M4.out ⟨⟨by show (0 : Int) ≤ r; omega, by show r ≤ 1048576; omega⟩, by show (0 : Int) ≤ 0 ∧ (0 : Int) ≤ 9223372036854775807; decide, by show (0 : Int) ≤ 1 ∧ (1 : Int) ≤ 1099511627776; decide⟩ (by rw [T1.out]; omega) (by simp) BB _ (Z k) Hy.out (by rw [Z_len]; omega)).mono ?_
  intro e w5 h9
  obtain ⟨rfl, d, hk⟩ := h9.to E3.out
  have D5 := Lib.hid d
  have B5 := Lib.hid ((B4.out.trans (hba.mono B4.out.size)).trans (hk.below (fun k hk => hk.1) (Nat.le_trans B4.out.size hba.size)))
  have M5 := Lib.hid B5.out.size
  clear d hk hba hda Hy
  go_wp2_with fail
  refine (freeA D5.out ⟨⟨by show (0 : Int) ≤ r; omega, by show r ≤ 1048576; omega⟩, by show (0 : Int) ≤ 0 ∧ (0 : Int) ≤ 9223372036854775807; decide, by show (0 : Int) ≤ 2 ∧ (2 : Int) ≤ 1099511627776; decide⟩ (by rw [T2.out]; omega)).mono ?_
  rintro e w6 ⟨rfl, hb⟩
  have D6 := Lib.hid (D5.out.below hb)
  have B6 := Lib.hid (B5.out.trans (hb.mono B5.out.size))
  have M6 := Lib.hid M5.out
  clear hb
  have hfr : r - (totA [(AA, Z m, 0), (BB, Z k, 0)] : Nat) = 0 := by have := HR.out; rw [T2.out]; omega
  simp only [hfr]
  go_wp2_with fail
  refine (appendA D6.out M6.out ⟨⟨by show (0 : Int) ≤ r; omega, by show r ≤ 1048576; omega⟩, by show (0 : Int) ≤ 0 ∧ (0 : Int) ≤ 9223372036854775807; decide, by show (0 : Int) ≤ 2 ∧ (2 : Int) ≤ 1099511627776; decide⟩ (by rw [T2.out]; omega) (by simp) AA _ [] (byt_nil _ _) (by simp)).mono ?_
  intro e w7 h9
  obtain ⟨rfl, d, hk⟩ := h9.to E4.out
  have D7 := Lib.hid d
  have B7 := Lib.hid (B6.out.trans (hk.below (fun k hk => hk.1) B6.out.size))
  have M7 := Lib.hid B7.out.size
  clear d hk
  go_wp2_with fail
  have hba : Below w7.heap.size w7 (w7.alloc (.cells #[.int .u8 1] 5)) := (Below.refl _ _).alloc (Nat.le_refl _) _
  have Hy := Lib.hid (byt_one (B := w0.heap.size) 1 D7.out.n)
  have hda := D7.out.below hba
  refine (appendA hda M7.out ⟨⟨by show (0 : Int) ≤ r; omega, by show r ≤ 1048576; omega⟩, by show (0 : Int) ≤ 0 ∧ (0 : Int) ≤ 9223372036854775807; decide, by show (0 : Int) ≤ 3 ∧ (3 : Int) ≤ 1099511627776; decide⟩ (by rw [T2.out]; omega) (by simp) AA _ [1] Hy.out (by decide)).mono ?_
  intro e w8 h9
  obtain ⟨rfl, d, hk⟩ := h9.to E5.out
  have B8 := Lib.hid ((B7.out.trans (hba.mono B7.out.size)).trans (hk.below (fun k hk => hk.1) (Nat.le_trans B7.out.size hba.size)))
  have BW := Lib.hid (B0.out.trans (B8.out.mono B0.out.size))
  clear d hk hba hda Hy
  go_wp2_with fail
  go_ret
  exact ⟨rfl, BW.out⟩
theorem full_walk (r f : Int) (w : World) : Calls Try.prog 6 #[.int .i64 r, .int .i64 f] w (LawEnd w) := by
  by_cases hg : r < 0 ∨ 4096 < r ∨ f < 0 ∨ r < f
  · exact full_out r f w hg
  · exact full_in f.toNat (r - f).toNat w (by omega) r f (by omega) (by omega)
end Go.Proofs.Ytfmcemedaehcoaa
