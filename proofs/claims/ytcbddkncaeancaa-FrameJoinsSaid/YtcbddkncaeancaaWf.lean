/- Walks: bytes in memory; the number of four. -/
import Derived.Test.YtcbddkncaeancaaWe
namespace Go.Proofs.Ytcbddkncaeancaa
set_option linter.unusedVariables false
open Go.ChangeShapes Go.WideShapes Go.ChangeAt Go.RowKit

/-- v is bytes in memory: none, or a row of cells. -/
def Byts (w : World) (v : Value) (l : List UInt8) : Prop :=
  ((∃ p cap, v = .slice p 0 cap) ∧ l = []) ∨
  ∃ b off cap, v = .slice (some ⟨b, off, none⟩) l.length cap ∧ l.length ≤ cap ∧ cap ≤ maxLen ∧ b < w.heap.size ∧ ∀ i, i < l.length → w.cell? ⟨b, off + i, none⟩ = some (.int .u8 (l.getD i 0).toNat)

theorem Byts.below {w w' : World} {v : Value} {l : List UInt8} (h : Byts w v l) (hB : Below w.heap.size w w') : Byts w' v l := by
  rcases h with h | ⟨b, off, cap, hv, hl, hc, hb, hcell⟩
  · exact .inl h
  · exact .inr ⟨b, off, cap, hv, hl, hc, Nat.lt_of_lt_of_le hb hB.size, fun i hi => by rw [hB.cell (p := ⟨b, off + i, none⟩) hb]; exact hcell i hi⟩

theorem shl_or (a b i : Nat) (h : b < 2 ^ i) : b ||| (a * 2 ^ i) = b + a * 2 ^ i := by
  rw [Nat.or_comm, ← Nat.shiftLeft_eq, ← Nat.shiftLeft_add_eq_or_of_lt h, Nat.add_comm]

theorem or4 (x0 x1 x2 x3 n : Nat) (h0 : x0 < 2 ^ 8) (h1 : x1 < 2 ^ 8) (h2 : x2 < 2 ^ 8) (h3 : x3 < 2 ^ 8) (hn : n = x0 + 256 * x1 + 65536 * x2 + 16777216 * x3) :
    bits BinOp.or IntKind.u32 (bits BinOp.or IntKind.u32 (bits BinOp.or IntKind.u32 (x0 : Int) ((x1 : Int) * 256)) ((x2 : Int) * 65536)) ((x3 : Int) * 16777216) = (n : Int) := by
  have e1 : bits BinOp.or IntKind.u32 (x0 : Int) ((x1 : Int) * 256) = ((x0 + x1 * 256 : Nat) : Int) := by
    rw [show ((x1 : Int) * 256) = ((x1 * 256 : Nat) : Int) by omega, u32_or_nat _ _ (by omega) (by omega), show x1 * 256 = x1 * 2 ^ 8 by omega, shl_or _ _ _ (by omega)]
  have e2 : bits BinOp.or IntKind.u32 ((x0 + x1 * 256 : Nat) : Int) ((x2 : Int) * 65536) = ((x0 + x1 * 256 + x2 * 65536 : Nat) : Int) := by
    rw [show ((x2 : Int) * 65536) = ((x2 * 65536 : Nat) : Int) by omega, u32_or_nat _ _ (by omega) (by omega), show x2 * 65536 = x2 * 2 ^ 16 by omega, shl_or _ _ _ (by omega)]
  have e3 : bits BinOp.or IntKind.u32 ((x0 + x1 * 256 + x2 * 65536 : Nat) : Int) ((x3 : Int) * 16777216) = ((x0 + x1 * 256 + x2 * 65536 + x3 * 16777216 : Nat) : Int) := by
    rw [show ((x3 : Int) * 16777216) = ((x3 * 16777216 : Nat) : Int) by omega, u32_or_nat _ _ (by omega) (by omega), show x3 * 16777216 = x3 * 2 ^ 24 by omega, shl_or _ _ _ (by omega)]
  rw [e1, e2, e3]
  omega

set_option maxHeartbeats 400000 in
theorem get32_row (b off cap len : Nat) (l : List UInt8) (w : World) (hl : 4 ≤ len) (hc : len ≤ cap) (hm : cap ≤ 9223372036854775807) (hcell : ∀ i, i < 4 → w.cell? ⟨b, off + i, none⟩ = some (.int .u8 (l.getD i 0).toNat)) :
    Calls Try.prog 23 #[.slice (some ⟨b, off, none⟩) len cap] w fun e w' => e = .returned (.int .u32 (le4 l : Nat)) ∧ ∃ k, w' = w.drewN k := by
  have h0 := hcell 0 (by omega)
  have h1 := hcell 1 (by omega)
  have h2 := hcell 2 (by omega)
  have h3 := hcell 3 (by omega)
  rw [Nat.add_zero] at h0
  have j0 : (0 : Int) < (len : Int) := by omega
  have j1 : (1 : Int) < (len : Int) := by omega
  have j2 : (2 : Int) < (len : Int) := by omega
  have j3 : (3 : Int) < (len : Int) := by omega
  have hle : le4 l = (l.getD 0 0).toNat + 256 * (l.getD 1 0).toNat + 65536 * (l.getD 2 0).toNat + 16777216 * (l.getD 3 0).toNat := rfl
  have b0 := (l.getD 0 0).toNat_lt
  have b1 := (l.getD 1 0).toNat_lt
  have b2 := (l.getD 2 0).toNat_lt
  have b3 := (l.getD 3 0).toNat_lt
  generalize (l.getD 0 0).toNat = x0 at *
  generalize (l.getD 1 0).toNat = x1 at *
  generalize (l.getD 2 0).toNat = x2 at *
  generalize (l.getD 3 0).toNat = x3 at *
  generalize le4 l = n at *
  have Hle := Lib.hid hle
  clear hle hcell
  go_enter Try.func23, Try.ntmps23
  go_wp2_with fail
  go_quiet (fail)
  rw [or4 x0 x1 x2 x3 n b0 b1 b2 b3 Hle.out]
  go_wp2_with fail
  go_ret
  exact ⟨rfl, _, rfl⟩

/-- The world but for what was drawn. -/
def Drawn (w w' : World) : Prop := ∃ k, w' = w.drewN k

/-- An answer of a record that leaves memory as it was. -/
def FirstEnd (w : World) (r : Option ByteArray) (e : Ending) (w' : World) : Prop :=
  (∃ k, w' = w.drewN k) ∧ match r with
  | none => ∃ t : ByteArray, e = .returned (.tuple #[.string t, .bool false])
  | some s => e = .returned (.tuple #[.string s, .bool true])

theorem nums_of (l : List UInt8) : strOfNums (l.map fun b => (b.toNat : Int)) = mkB l := by
  apply ba_ext
  rw [strOfNums_data, mkB_toList, List.map_map]
  simp [Function.comp_def]

theorem wholeL_short (l : List UInt8) (h : l.length < 8) : wholeL l = none := by unfold wholeL; rw [if_pos h]
theorem wholeL_great2 (l : List UInt8) (h : 8 ≤ l.length) (hg : 65536 < le4 l ∨ l.length < le4 l + 8) : wholeL l = none := by
  unfold wholeL
  rw [if_neg (by omega), if_pos hg]
theorem wholeL_fits2 (l : List UInt8) (n : Nat) (h : 8 ≤ l.length) (hn : n = le4 l) (h1 : n ≤ 65536) (h2 : n + 8 ≤ l.length) :
    wholeL l = if crc ((l.drop 8).take n) = le4 (l.drop 4) then some (mkB ((l.drop 8).take n)) else none := by
  unfold wholeL
  rw [if_neg (by omega), ← hn, if_neg (by omega)]

set_option maxHeartbeats 400000 in
theorem first_short (v : Value) (l : List UInt8) (w : World) (hv : Byts w v l) (h : l.length < 8) :
    Calls Try.prog 22 #[v] w (FirstEnd w none) := by
  rcases hv with ⟨⟨pz, cz, rfl⟩, rfl⟩ | ⟨b, off, cap, rfl, hcap, hmax, hb, hcell⟩
  · go_enter Try.func22, Try.ntmps22
    go_wp2_with fail
    go_ret2
    exact ⟨⟨0, rfl⟩, _, rfl⟩
  · generalize l.length = n at *
    have hd : decide ((n : Int) < 8) = true := by simp; omega
    clear hcell
    go_enter Try.func22, Try.ntmps22
    go_wp2_with fail
    go_ret2
    exact ⟨⟨0, rfl⟩, _, rfl⟩

set_option maxHeartbeats 800000 in
theorem first_long (v : Value) (l : List UInt8) (w : World) (hv : Byts w v l) (h : 8 ≤ l.length) :
    Calls Try.prog 22 #[v] w (FirstEnd w (wholeL l)) := by
  rcases hv with ⟨⟨pz, cz, rfl⟩, rfl⟩ | ⟨b, off, cap, rfl, hcap, hmax, hb, hcell⟩
  · simp at h
  · unfold maxLen at hmax
    have hg : ∀ w1, (∃ k, w1 = w.drewN k) → Calls Try.prog 23 #[.slice (some ⟨b, off, none⟩) l.length cap] w1 fun e w' => e = .returned (.int .u32 (le4 l : Nat)) ∧ ∃ k, w' = w.drewN k := by
      rintro w1 ⟨k, rfl⟩
      refine (get32_row b off cap l.length l _ (by omega) hcap hmax (fun i hi => by simpa using hcell i (by omega))).mono ?_
      rintro e w' ⟨h1, j, rfl⟩
      exact ⟨h1, k + j, by simp⟩
    have hg4 : ∀ w1, Drawn w w1 → Calls Try.prog 23 #[.slice (some ⟨b, off + 4, none⟩) (l.length - 4) (cap - 4)] w1 fun e w' => e = .returned (.int .u32 (le4 (l.drop 4) : Nat)) ∧ Drawn w w' := by
      rintro w1 ⟨k, rfl⟩
      refine (get32_row b (off + 4) (cap - 4) (l.length - 4) (l.drop 4) _ (by omega) (by omega) (by omega) (fun i hi => ?_)).mono ?_
      · have := hcell (4 + i) (by omega)
        rw [← Nat.add_assoc] at this
        simpa [List.getD_eq_getElem?_getD] using this
      · rintro e w' ⟨h1, j, rfl⟩
        exact ⟨h1, k + j, by simp⟩
    have Hg := Lib.hid hg
    have Hg4 := Lib.hid hg4
    clear hg hg4
    by_cases hA : 65536 < le4 l
    · have hwn := wholeL_great2 l h (.inl hA)
      have Hwn := Lib.hid hwn
      generalize le4 l = n at *
      generalize l.length = len at *
      have h0 : decide ((len : Int) < 8) = false := by simp; omega
      have h1 : decide ((65536 : Int) < (n : Int)) = true := by simp; omega
      clear hwn hcell
      go_enter Try.func22, Try.ntmps22
      go_wp2_with fail
      refine (Hg.out _ ⟨0, rfl⟩).mono ?_
      rintro e w1 ⟨rfl, k, rfl⟩
      go_wp2_with fail
      go_ret2
      refine ⟨⟨k, rfl⟩, ?_⟩
      rw [Hwn.out]
      exact ⟨_, rfl⟩
    · by_cases hB : l.length < le4 l + 8
      · have hwn := wholeL_great2 l h (.inr hB)
        have Hwn := Lib.hid hwn
        generalize le4 l = n at *
        generalize l.length = len at *
        have h0 : decide ((len : Int) < 8) = false := by simp; omega
        have h1 : decide ((65536 : Int) < (n : Int)) = false := by simp; omega
        have h2 : decide ((len : Int) - 8 < (n : Int)) = true := by simp; omega
        clear hwn hcell
        go_enter Try.func22, Try.ntmps22
        go_wp2_with fail
        refine (Hg.out _ ⟨0, rfl⟩).mono ?_
        rintro e w1 ⟨rfl, k, rfl⟩
        go_wp2_with fail
        go_ret2
        refine ⟨⟨k, rfl⟩, ?_⟩
        rw [Hwn.out]
        exact ⟨_, rfl⟩
      · have hwe := wholeL_fits2 l (le4 l) h rfl (by omega) (by omega)
        have hcv : ∀ w1, (∃ k, w1 = w.drewN k) → (convert 22 9 (.slice (some ⟨b, off + 8, none⟩) (le4 l) (cap - 8))).run Try.prog w1 = .ok (.string (mkB ((l.drop 8).take (le4 l)))) w1 := by
          rintro w1 ⟨k, rfl⟩
          rw [← nums_of]
          exact run_convert_bytes_arg _ 22 5 Try.underlying22 Try.underlying5 b (off + 8) _ _ _ (by rw [List.length_map, List.length_take, List.length_drop]; omega) (fun i hi => by
            have := hcell (8 + i) (by omega)
            rw [← Nat.add_assoc] at this
            have e : (List.map (fun b : UInt8 => (b.toNat : Int)) (List.take (le4 l) (List.drop 8 l))).getD i 0 = ((l.getD (8 + i) 0).toNat : Int) := by
              rw [List.getD_eq_getElem?_getD, List.getD_eq_getElem?_getD, List.getElem?_map, List.getElem?_take_of_lt hi, List.getElem?_drop, List.getElem?_eq_getElem (by omega)]
              simp
            rw [e]; simpa using this) 9 Try.underlying9
        have hck : ∀ w1, Drawn w w1 → Calls Try.prog 12 #[.string (mkB ((l.drop 8).take (le4 l)))] w1 fun e w' => e = .returned (.int .u32 (crc ((l.drop 8).take (le4 l)) : Nat)) ∧ Drawn w w' := by
          rintro w1 ⟨k, rfl⟩
          refine (check_any (mkB ((l.drop 8).take (le4 l))) _ (by rw [mkB_size, List.length_take]; omega)).mono ?_
          rintro e w' ⟨h1, h2⟩
          exact ⟨h1, k, h2.symm⟩
        have hsz : (mkB ((l.drop 8).take (le4 l))).size = le4 l := by rw [mkB_size, List.length_take, List.length_drop]; omega
        have hd : ∀ c d : Nat, ((c : Int) == (d : Int)) = decide (c = d) := fun c d => by
          by_cases hcd : c = d
          · subst hcd; simp
          · have : ¬ ((c : Int) = (d : Int)) := by omega
            simp [hcd, this]
        generalize crc ((l.drop 8).take (le4 l)) = c at *
        generalize le4 (l.drop 4) = d at *
        generalize mkB ((l.drop 8).take (le4 l)) = s at *
        generalize le4 l = n at *
        have Hwe := Lib.hid hwe
        have Hcv := Lib.hid hcv
        have Hck := Lib.hid hck
        have Hd := Lib.hid (hd c d)
        generalize l.length = len at *
        have h0 : decide ((len : Int) < 8) = false := by simp; omega
        have h1 : decide ((65536 : Int) < (n : Int)) = false := by simp; omega
        have h2 : decide ((len : Int) - 8 < (n : Int)) = false := by simp; omega
        have h3 : (8 : Int) + n ≤ cap := by omega
        have h4 : ¬ cap = 4 := by omega
        have h5 : (4 : Int) ≤ len := by omega
        clear hwe hcv hck hd hcell
        by_cases hc8 : cap = 8
        · obtain rfl : n = 0 := by omega
          obtain rfl : len = 8 := by omega
          subst hc8
          have hcv0 : ∀ k, (convert 22 9 (.slice (some ⟨b, off, none⟩) 0 0)).run Try.prog (w.drewN k) = .ok (.string s) (w.drewN k) := fun k => by
            have hs0 : s = strOfNums [] := by
              apply ba_ext
              have : s.data.toList = [] := List.eq_nil_of_length_eq_zero (by rw [ba_len]; exact hsz)
              rw [this]; rfl
            rw [hs0]
            exact run_convert_bytes_arg _ 22 5 Try.underlying22 Try.underlying5 b off 0 0 [] rfl (fun i hi => by omega) 9 Try.underlying9
          have Hcv0 := Lib.hid hcv0
          clear hcv0
          go_enter Try.func22, Try.ntmps22
          go_wp2_with fail
          refine (Hg.out _ ⟨0, rfl⟩).mono ?_
          rintro e w1 ⟨rfl, k, rfl⟩
          have hcvk := Hcv0.out k
          go_wp2_with fail
          refine wp_region_class (Drawn w) (by kernel_rfl) (by kernel_rfl) ⟨k + 1, rfl⟩ ?_
          repeat (go_big_quiet_step (first | (intro _; rfl) | (intro hq; exact Hck.out _ hq) | (intro hq; exact Hg4.out _ hq)))
          refine wpQuiet_nil ?_
          intro wq hBq
          first | rw [Hd.out] | skip
          go_wp2_with fail
          go_ret2
          refine ⟨hBq, ?_⟩
          rw [Hwe.out]
          by_cases hc : c = d
          · rw [if_pos hc, decide_eq_true hc]; rfl
          · rw [if_neg hc, decide_eq_false hc]; exact ⟨_, rfl⟩
        · have h6 : ¬ cap = 8 := hc8
          go_enter Try.func22, Try.ntmps22
          go_wp2_with fail
          refine (Hg.out _ ⟨0, rfl⟩).mono ?_
          rintro e w1 ⟨rfl, k, rfl⟩
          have hcvk := Hcv.out _ ⟨k, rfl⟩
          go_wp2_with fail
          refine wp_region_class (Drawn w) (by kernel_rfl) (by kernel_rfl) ⟨k + 1, rfl⟩ ?_
          repeat (go_big_quiet_step (first | (intro _; rfl) | (intro hq; exact Hck.out _ hq) | (intro hq; exact Hg4.out _ hq)))
          refine wpQuiet_nil ?_
          intro wq hBq
          first | rw [Hd.out] | skip
          go_wp2_with fail
          go_ret2
          refine ⟨hBq, ?_⟩
          rw [Hwe.out]
          by_cases hc : c = d
          · rw [if_pos hc, decide_eq_true hc]; rfl
          · rw [if_neg hc, decide_eq_false hc]; exact ⟨_, rfl⟩

end Go.Proofs.Ytcbddkncaeancaa
