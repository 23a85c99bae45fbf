/- Walks: bytes in memory; the number of four; Walks: bytes are split; Walks: a number's four bytes are put; Walks: records are put. -/
import Derived.Test.YtbdlmdmbaajcmaaG1
import Derived.Lib.AppendStr
import Derived.Laws.AppendOwnNone
import Derived.Laws.IdiomStrings
import Derived.OwnWalk
namespace Go.Proofs.Ytbdlmdmbaajcmaa.G
set_option linter.unusedVariables false
open Go.ChangeShapes Go.WideShapes Go.ChangeAt Go.RowKit

/-- v is bytes in memory: none, or a row of cells. -/
def Byts (w : World) (v : Value) (l : List UInt8) : Prop :=
  ((∃ p cap, v = .slice p 0 cap) ∧ l = []) ∨
  ∃ b off cap, v = .slice (some ⟨b, off, none⟩) l.length cap ∧ l.length ≤ cap ∧ cap ≤ maxLen ∧ b < w.heap.size ∧ ∀ i, i < l.length → w.cell? ⟨b, off + i, none⟩ = some (.int .u8 (l.getD i 0).toNat)

theorem Byts.below {w w' : World} {v : Value} {l : List UInt8} (h : Byts w v l) (hB : Below w.heap.size w w') : Byts w' v l := by
  rcases h with h | ⟨b, off, cap, hv, hl, hc, hb, hcell⟩
  · exact .inl h
  · exact .inr ⟨b, off, cap, hv, hl, hc, Nat.lt_of_lt_of_le hb hB.size, fun i hi => by rw [hB.cell (p := ⟨b, off + i, none⟩) hb]; exact hcell i hi⟩

theorem shl_or (a b i : Nat) (h : b < 2 ^ i) : b ||| (a * 2 ^ i) = b + a * 2 ^ i := by
  rw [Nat.or_comm, ← Nat.shiftLeft_eq, ← Nat.shiftLeft_add_eq_or_of_lt h, Nat.add_comm]

theorem or4 (x0 x1 x2 x3 n : Nat) (h0 : x0 < 2 ^ 8) (h1 : x1 < 2 ^ 8) (h2 : x2 < 2 ^ 8) (h3 : x3 < 2 ^ 8) (hn : n = x0 + 256 * x1 + 65536 * x2 + 16777216 * x3) :
    bits BinOp.or IntKind.u32 (bits BinOp.or IntKind.u32 (bits BinOp.or IntKind.u32 (x0 : Int) ((x1 : Int) * 256)) ((x2 : Int) * 65536)) ((x3 : Int) * 16777216) = (n : Int) := by
  have e1 : bits BinOp.or IntKind.u32 (x0 : Int) ((x1 : Int) * 256) = ((x0 + x1 * 256 : Nat) : Int) := by
    rw [show ((x1 : Int) * 256) = ((x1 * 256 : Nat) : Int) by omega, u32_or_nat _ _ (by omega) (by omega), show x1 * 256 = x1 * 2 ^ 8 by omega, shl_or _ _ _ (by omega)]
  have e2 : bits BinOp.or IntKind.u32 ((x0 + x1 * 256 : Nat) : Int) ((x2 : Int) * 65536) = ((x0 + x1 * 256 + x2 * 65536 : Nat) : Int) := by
    rw [show ((x2 : Int) * 65536) = ((x2 * 65536 : Nat) : Int) by omega, u32_or_nat _ _ (by omega) (by omega), show x2 * 65536 = x2 * 2 ^ 16 by omega, shl_or _ _ _ (by omega)]
  have e3 : bits BinOp.or IntKind.u32 ((x0 + x1 * 256 + x2 * 65536 : Nat) : Int) ((x3 : Int) * 16777216) = ((x0 + x1 * 256 + x2 * 65536 + x3 * 16777216 : Nat) : Int) := by
    rw [show ((x3 : Int) * 16777216) = ((x3 * 16777216 : Nat) : Int) by omega, u32_or_nat _ _ (by omega) (by omega), show x3 * 16777216 = x3 * 2 ^ 24 by omega, shl_or _ _ _ (by omega)]
  rw [e1, e2, e3]
  omega

set_option maxRecDepth 100000 in
set_option maxHeartbeats 400000 in
theorem get32_row (b off cap len : Nat) (l : List UInt8) (w : World) (hl : 4 ≤ len) (hc : len ≤ cap) (hm : cap ≤ 9223372036854775807) (hcell : ∀ i, i < 4 → w.cell? ⟨b, off + i, none⟩ = some (.int .u8 (l.getD i 0).toNat)) :
    Calls Try.prog 85 #[.slice (some ⟨b, off, none⟩) len cap] w fun e w' => e = .returned (.int .u32 (le4 l : Nat)) ∧ ∃ k, w' = w.drewN k := by
  have h0 := hcell 0 (by omega)
  have h1 := hcell 1 (by omega)
  have h2 := hcell 2 (by omega)
  have h3 := hcell 3 (by omega)
  rw [Nat.add_zero] at h0
  have j0 : (0 : Int) < (len : Int) := by omega
  have j1 : (1 : Int) < (len : Int) := by omega
  have j2 : (2 : Int) < (len : Int) := by omega
  have j3 : (3 : Int) < (len : Int) := by omega
  have hle : le4 l = (l.getD 0 0).toNat + 256 * (l.getD 1 0).toNat + 65536 * (l.getD 2 0).toNat + 16777216 * (l.getD 3 0).toNat := rfl
  have b0 := (l.getD 0 0).toNat_lt
  have b1 := (l.getD 1 0).toNat_lt
  have b2 := (l.getD 2 0).toNat_lt
  have b3 := (l.getD 3 0).toNat_lt
  generalize (l.getD 0 0).toNat = x0 at *
  generalize (l.getD 1 0).toNat = x1 at *
  generalize (l.getD 2 0).toNat = x2 at *
  generalize (l.getD 3 0).toNat = x3 at *
  generalize le4 l = n at *
  have Hle := Lib.hid hle
  clear hle hcell
  go_enter Try.func85, Try.ntmps85
  go_wp2_with fail
  go_quiet (fail)
  rw [or4 x0 x1 x2 x3 n b0 b1 b2 b3 Hle.out]
  go_wp2_with fail
  go_ret
  exact ⟨rfl, _, rfl⟩

/-- The world but for what was drawn. -/
def Drawn (w w' : World) : Prop := ∃ k, w' = w.drewN k

/-- An answer of a record that leaves memory as it was. -/
def FirstEnd (w : World) (r : Option ByteArray) (e : Ending) (w' : World) : Prop :=
  (∃ k, w' = w.drewN k) ∧ match r with
  | none => ∃ t : ByteArray, e = .returned (.tuple #[.string t, .bool false])
  | some s => e = .returned (.tuple #[.string s, .bool true])

theorem nums_of (l : List UInt8) : strOfNums (l.map fun b => (b.toNat : Int)) = mkB l := by
  apply ba_ext
  rw [strOfNums_data, mkB_toList, List.map_map]
  simp [Function.comp_def]

theorem wholeL_short (l : List UInt8) (h : l.length < 8) : wholeL l = none := by unfold wholeL; rw [if_pos h]
theorem wholeL_great2 (l : List UInt8) (h : 8 ≤ l.length) (hg : 65536 < le4 l ∨ l.length < le4 l + 8) : wholeL l = none := by
  unfold wholeL
  rw [if_neg (by omega), if_pos hg]
theorem wholeL_fits2 (l : List UInt8) (n : Nat) (h : 8 ≤ l.length) (hn : n = le4 l) (h1 : n ≤ 65536) (h2 : n + 8 ≤ l.length) :
    wholeL l = if crc ((l.drop 8).take n) = le4 (l.drop 4) then some (mkB ((l.drop 8).take n)) else none := by
  unfold wholeL
  rw [if_neg (by omega), ← hn, if_neg (by omega)]

set_option maxRecDepth 100000 in
set_option maxHeartbeats 400000 in
theorem first_short (v : Value) (l : List UInt8) (w : World) (hv : Byts w v l) (h : l.length < 8) :
    Calls Try.prog 75 #[v] w (FirstEnd w none) := by
  rcases hv with ⟨⟨pz, cz, rfl⟩, rfl⟩ | ⟨b, off, cap, rfl, hcap, hmax, hb, hcell⟩
  · go_enter Try.func75, Try.ntmps75
    go_wp2_with fail
    go_ret2
    exact ⟨⟨0, rfl⟩, _, rfl⟩
  · generalize l.length = n at *
    have hd : decide ((n : Int) < 8) = true := by simp; omega
    clear hcell
    go_enter Try.func75, Try.ntmps75
    go_wp2_with fail
    go_ret2
    exact ⟨⟨0, rfl⟩, _, rfl⟩

set_option maxRecDepth 100000 in
set_option maxHeartbeats 800000 in
theorem first_long (v : Value) (l : List UInt8) (w : World) (hv : Byts w v l) (h : 8 ≤ l.length) :
    Calls Try.prog 75 #[v] w (FirstEnd w (wholeL l)) := by
  rcases hv with ⟨⟨pz, cz, rfl⟩, rfl⟩ | ⟨b, off, cap, rfl, hcap, hmax, hb, hcell⟩
  · simp at h
  · unfold maxLen at hmax
    have hg : ∀ w1, (∃ k, w1 = w.drewN k) → Calls Try.prog 85 #[.slice (some ⟨b, off, none⟩) l.length cap] w1 fun e w' => e = .returned (.int .u32 (le4 l : Nat)) ∧ ∃ k, w' = w.drewN k := by
      rintro w1 ⟨k, rfl⟩
      refine (get32_row b off cap l.length l _ (by omega) hcap hmax (fun i hi => by simpa using hcell i (by omega))).mono ?_
      rintro e w' ⟨h1, j, rfl⟩
      exact ⟨h1, k + j, by simp⟩
    have hg4 : ∀ w1, Drawn w w1 → Calls Try.prog 85 #[.slice (some ⟨b, off + 4, none⟩) (l.length - 4) (cap - 4)] w1 fun e w' => e = .returned (.int .u32 (le4 (l.drop 4) : Nat)) ∧ Drawn w w' := by
      rintro w1 ⟨k, rfl⟩
      refine (get32_row b (off + 4) (cap - 4) (l.length - 4) (l.drop 4) _ (by omega) (by omega) (by omega) (fun i hi => ?_)).mono ?_
      · have := hcell (4 + i) (by omega)
        rw [← Nat.add_assoc] at this
        simpa [List.getD_eq_getElem?_getD] using this
      · rintro e w' ⟨h1, j, rfl⟩
        exact ⟨h1, k + j, by simp⟩
    have Hg := Lib.hid hg
    have Hg4 := Lib.hid hg4
    clear hg hg4
    by_cases hA : 65536 < le4 l
    · have hwn := wholeL_great2 l h (.inl hA)
      have Hwn := Lib.hid hwn
      generalize le4 l = n at *
      generalize l.length = len at *
      have h0 : decide ((len : Int) < 8) = false := by simp; omega
      have h1 : decide ((65536 : Int) < (n : Int)) = true := by simp; omega
      clear hwn hcell
      go_enter Try.func75, Try.ntmps75
      go_wp2_with fail
      refine (Hg.out _ ⟨0, rfl⟩).mono ?_
      rintro e w1 ⟨rfl, k, rfl⟩
      go_wp2_with fail
      go_ret2
      refine ⟨⟨k, rfl⟩, ?_⟩
      rw [Hwn.out]
      exact ⟨_, rfl⟩
    · by_cases hB : l.length < le4 l + 8
      · have hwn := wholeL_great2 l h (.inr hB)
        have Hwn := Lib.hid hwn
        generalize le4 l = n at *
        generalize l.length = len at *
        have h0 : decide ((len : Int) < 8) = false := by simp; omega
        have h1 : decide ((65536 : Int) < (n : Int)) = false := by simp; omega
        have h2 : decide ((len : Int) - 8 < (n : Int)) = true := by simp; omega
        clear hwn hcell
        go_enter Try.func75, Try.ntmps75
        go_wp2_with fail
        refine (Hg.out _ ⟨0, rfl⟩).mono ?_
        rintro e w1 ⟨rfl, k, rfl⟩
        go_wp2_with fail
        go_ret2
        refine ⟨⟨k, rfl⟩, ?_⟩
        rw [Hwn.out]
        exact ⟨_, rfl⟩
      · have hwe := wholeL_fits2 l (le4 l) h rfl (by omega) (by omega)
        have hcv : ∀ w1, (∃ k, w1 = w.drewN k) → (convert 40 9 (.slice (some ⟨b, off + 8, none⟩) (le4 l) (cap - 8))).run Try.prog w1 = .ok (.string (mkB ((l.drop 8).take (le4 l)))) w1 := by
          rintro w1 ⟨k, rfl⟩
          rw [← nums_of]
          exact run_convert_bytes_arg _ 40 5 Try.underlying40 Try.underlying5 b (off + 8) _ _ _ (by rw [List.length_map, List.length_take, List.length_drop]; omega) (fun i hi => by
            have := hcell (8 + i) (by omega)
            rw [← Nat.add_assoc] at this
            have e : (List.map (fun b : UInt8 => (b.toNat : Int)) (List.take (le4 l) (List.drop 8 l))).getD i 0 = ((l.getD (8 + i) 0).toNat : Int) := by
              rw [List.getD_eq_getElem?_getD, List.getD_eq_getElem?_getD, List.getElem?_map, List.getElem?_take_of_lt hi, List.getElem?_drop, List.getElem?_eq_getElem (by omega)]
              simp
            rw [e]; simpa using this) 9 Try.underlying9
        have hck : ∀ w1, Drawn w w1 → Calls Try.prog 70 #[.string (mkB ((l.drop 8).take (le4 l)))] w1 fun e w' => e = .returned (.int .u32 (crc ((l.drop 8).take (le4 l)) : Nat)) ∧ Drawn w w' := by
          rintro w1 ⟨k, rfl⟩
          refine (check_any (mkB ((l.drop 8).take (le4 l))) _ (by rw [mkB_size, List.length_take]; omega)).mono ?_
          rintro e w' ⟨h1, h2⟩
          exact ⟨h1, k, h2.symm⟩
        have hsz : (mkB ((l.drop 8).take (le4 l))).size = le4 l := by rw [mkB_size, List.length_take, List.length_drop]; omega
        have hd : ∀ c d : Nat, ((c : Int) == (d : Int)) = decide (c = d) := fun c d => by
          by_cases hcd : c = d
          · subst hcd; simp
          · have : ¬ ((c : Int) = (d : Int)) := by omega
            simp [hcd, this]
        generalize crc ((l.drop 8).take (le4 l)) = c at *
        generalize le4 (l.drop 4) = d at *
        generalize mkB ((l.drop 8).take (le4 l)) = s at *
        generalize le4 l = n at *
        have Hwe := Lib.hid hwe
        have Hcv := Lib.hid hcv
        have Hck := Lib.hid hck
        have Hd := Lib.hid (hd c d)
        generalize l.length = len at *
        have h0 : decide ((len : Int) < 8) = false := by simp; omega
        have h1 : decide ((65536 : Int) < (n : Int)) = false := by simp; omega
        have h2 : decide ((len : Int) - 8 < (n : Int)) = false := by simp; omega
        have h3 : (8 : Int) + n ≤ cap := by omega
        have h4 : ¬ cap = 4 := by omega
        have h5 : (4 : Int) ≤ len := by omega
        clear hwe hcv hck hd hcell
        by_cases hc8 : cap = 8
        · obtain rfl : n = 0 := by omega
          obtain rfl : len = 8 := by omega
          subst hc8
          have hcv0 : ∀ k, (convert 40 9 (.slice (some ⟨b, off, none⟩) 0 0)).run Try.prog (w.drewN k) = .ok (.string s) (w.drewN k) := fun k => by
            have hs0 : s = strOfNums [] := by
              apply ba_ext
              have : s.data.toList = [] := List.eq_nil_of_length_eq_zero (by rw [ba_len]; exact hsz)
              rw [this]; rfl
            rw [hs0]
            exact run_convert_bytes_arg _ 40 5 Try.underlying40 Try.underlying5 b off 0 0 [] rfl (fun i hi => by omega) 9 Try.underlying9
          have Hcv0 := Lib.hid hcv0
          clear hcv0
          go_enter Try.func75, Try.ntmps75
          go_wp2_with fail
          refine (Hg.out _ ⟨0, rfl⟩).mono ?_
          rintro e w1 ⟨rfl, k, rfl⟩
          have hcvk := Hcv0.out k
          go_wp2_with fail
          refine wp_region_class (Drawn w) (by kernel_rfl) (by kernel_rfl) ⟨k + 1, rfl⟩ ?_
          repeat (go_big_quiet_step (first | (intro _; rfl) | (intro hq; exact Hck.out _ hq) | (intro hq; exact Hg4.out _ hq)))
          refine wpQuiet_nil ?_
          intro wq hBq
          first | rw [Hd.out] | skip
          go_wp2_with fail
          go_ret2
          refine ⟨hBq, ?_⟩
          rw [Hwe.out]
          by_cases hc : c = d
          · rw [if_pos hc, decide_eq_true hc]; rfl
          · rw [if_neg hc, decide_eq_false hc]; exact ⟨_, rfl⟩
        · have h6 : ¬ cap = 8 := hc8
          go_enter Try.func75, Try.ntmps75
          go_wp2_with fail
          refine (Hg.out _ ⟨0, rfl⟩).mono ?_
          rintro e w1 ⟨rfl, k, rfl⟩
          have hcvk := Hcv.out _ ⟨k, rfl⟩
          go_wp2_with fail
          refine wp_region_class (Drawn w) (by kernel_rfl) (by kernel_rfl) ⟨k + 1, rfl⟩ ?_
          repeat (go_big_quiet_step (first | (intro _; rfl) | (intro hq; exact Hck.out _ hq) | (intro hq; exact Hg4.out _ hq)))
          refine wpQuiet_nil ?_
          intro wq hBq
          first | rw [Hd.out] | skip
          go_wp2_with fail
          go_ret2
          refine ⟨hBq, ?_⟩
          rw [Hwe.out]
          by_cases hc : c = d
          · rw [if_pos hc, decide_eq_true hc]; rfl
          · rw [if_neg hc, decide_eq_false hc]; exact ⟨_, rfl⟩

end Go.Proofs.Ytbdlmdmbaajcmaa.G
namespace Go.Proofs.Ytbdlmdmbaajcmaa.G
set_option linter.unusedVariables false
open Go.ChangeShapes Go.WideShapes Go.ChangeAt Go.RowKit

theorem sliced_run (p : Option Addr) (len cap n : Nat) (h : n ≤ len) (w1 : World) : (Instr.slice 40 (.slice p len cap) (some (.int .i64 n)) none none).run Try.prog w1 = .ok (.slice (if cap = n then p else p.map (·.add n)) (len - n) (cap - n)) w1 := by
  have h2 : (n : Int) ≤ len := by omega
  have he : Try.prog.elem 40 = 5 := by kernel_rfl
  have hz : (sizeOf 5).run Try.prog w1 = .ok 1 w1 := by kernel_rfl
  rw [run_slice_l w1 40 _ _ _ (by rw [he]; exact Try.underlying40) .i64 _ (by omega) h2, he, hz]
  simp [Result.andThen, sliced]

theorem add_none (b off i : Nat) : (⟨b, off, none⟩ : Addr).add i = ⟨b, off + i, none⟩ := by unfold Addr.add; split <;> simp_all

theorem byts_from (w : World) (v : Value) (l : List UInt8) (n : Nat) (hv : Byts w v l) (hn : n ≤ l.length) : ∃ v', (∀ w1, (Instr.slice 40 v (some (.int .i64 n)) none none).run Try.prog w1 = .ok v' w1) ∧ Byts w v' (l.drop n) := by
  rcases hv with ⟨⟨pz, cz, rfl⟩, rfl⟩ | ⟨b, off, cap, rfl, hcap, hmax, hb, hcell⟩
  · exact ⟨_, fun w1 => sliced_run _ _ _ _ (by simpa using hn) w1, .inl ⟨⟨_, _, by rw [show 0 - n = 0 by omega]⟩, by simp⟩⟩
  · refine ⟨_, fun w1 => sliced_run _ _ _ _ hn w1, ?_⟩
    by_cases hc : cap = n
    · refine .inl ⟨⟨_, _, by rw [show l.length - n = 0 by omega]⟩, List.drop_eq_nil_of_le (by omega)⟩
    · refine .inr ⟨b, off + n, cap - n, ?_, by rw [List.length_drop]; omega, by omega, hb, fun i hi => ?_⟩
      · rw [if_neg hc, List.length_drop, Option.map_some, add_none]
      · rw [List.length_drop] at hi
        have := hcell (n + i) (by omega)
        rw [← Nat.add_assoc] at this
        simpa [List.getD_eq_getElem?_getD] using this

theorem first_any (v : Value) (l : List UInt8) (w : World) (hv : Byts w v l) : Calls Try.prog 75 #[v] w (FirstEnd w (wholeL l)) := by
  by_cases h : l.length < 8
  · rw [wholeL_short l h]; exact first_short v l w hv h
  · exact first_long v l w hv (by omega)

set_option maxRecDepth 100000 in
set_option maxHeartbeats 400000 in
theorem split_any (v : Value) (l : List UInt8) (w : World) (hv : Byts w v l) (hs : l.length ≤ 1048576) :
    Calls Try.prog 57 #[v] w (SplitEnd w (splitL l)) := by
  obtain ⟨i0, hi, hz0, hz1, hz2⟩ := info_parts Try.info9
  go_enter Try.func57, Try.ntmps57
  go_wp2_with fail
  go_loopg [4, 5] (l.length + 1) (fun g ov nv wr => ∃ (n : Nat) (acc : List ByteArray), n + g = l.length + 1 ∧ nv = .int .i64 n ∧ 8 * acc.length ≤ n ∧ Mid l acc n ∧ wr.ownsRow w.heap.size 9 1 ov acc.length (acc.map Value.string) ∧ Below w.heap.size w wr)
  case atStart => exact ⟨0, [], by omega, rfl, by simp, Mid.start _, World.ownsRow_nil _ _ _ _, Below.refl _ _⟩
  case round =>
    obtain ⟨n, acc, hng, rfl, hal, hmid, hown, hB⟩ := hrel
    have hns : n ≤ l.length := hmid.1
    obtain ⟨v2, hrun, hv2⟩ := byts_from w v l n hv hns
    have HM := Lib.hid hmid
    have hBs := hB.size
    clear hmid
    cases hwh : wholeL (l.drop n) with
    | none =>
      have hc : ∀ w1, w1 = wr → Calls Try.prog 75 #[v2] w1 (FirstEnd wr none) := by rintro w1 rfl; have := first_any v2 _ w1 (hv2.below hB); rwa [hwh] at this
      have hd := HM.out.done hwh
      have Hd := Lib.hid hd
      have Hc := Lib.hid hc
      clear hd hc hwh hv2
      go_wp2_with fail
      refine (Hc.out _ rfl).mono ?_
      rintro e w1 ⟨⟨kq, rfl⟩, t, rfl⟩
      have hB1 := below_drewN (Below.refl wr.heap.size wr) kq
      have hown1 := ownsRow_below hown hB1
      have hB01 := hB.trans (hB1.mono hBs)
      clear hown hB hB1
      go_wp2_with fail
      go_ret2
      refine ⟨hB01, _, ?_, by rw [Hd.out]; exact hown1⟩
      rw [Hd.out]
      rfl
    | some p =>
      have hc : ∀ w1, w1 = wr → Calls Try.prog 75 #[v2] w1 (FirstEnd wr (some p)) := by rintro w1 rfl; have := first_any v2 _ w1 (hv2.below hB); rwa [hwh] at this
      have hst := HM.out.step hwh
      have hle := wholeL_le hwh
      rw [List.length_drop] at hle
      have Hst := Lib.hid hst
      have Hc := Lib.hid hc
      clear hst hc hwh hv2 HM
      go_wp2_with fail
      refine (Hc.out _ rfl).mono ?_
      rintro e w1 ⟨⟨kq, rfl⟩, hee⟩
      obtain rfl := hee
      have hB1 := below_drewN (Below.refl wr.heap.size wr) kq
      have hown1 := ownsRow_below hown hB1
      have hB01 := hB.trans (hB1.mono hBs)
      have hBs1 := hB01.size
      clear hown hB hB1 Hc
      generalize wr.drewN kq = w1 at *
      go_wp2_with (at_builtin; go_must (refine wpList_append_own _ rfl (.tmp 19) (.tmp 21) 49 rfl w.heap.size 9 i0 (.string ⟨#[]⟩) 1 16 Try.underlying49 hi hz0 hz1 hz2 rfl (by decide) _ _ _ rfl (hown1.alloc _) ⟨w1.heap.size, 0, none⟩ 1 1 [.string p] rfl rfl (cell_one_new _ _ _) (by intro u hu; simp at hu; subst hu; rfl) (by unfold maxLen; omega) (by omega) (by simp; omega) ?_); intro v1 w2 hown2 hgrow2 _)
      rw [show acc.map Value.string ++ [Value.string p] = (acc ++ [p]).map Value.string by simp] at hown2
      go_roundg (gk - 8 - p.size)
      case measure => omega
      case rel => exact ⟨n + 8 + p.size, acc ++ [p], by omega, by go_num, by simp; omega, Hst.out, by simpa using hown2, (hB01.alloc hBs1 _).grown hgrow2 (by simp; omega) (fun k hk => (hown1.lt k hk).1)⟩
end Go.Proofs.Ytbdlmdmbaajcmaa.G
namespace Go.Proofs.Ytbdlmdmbaajcmaa.G
set_option linter.unusedVariables false
open Go.ChangeShapes Go.WideShapes Go.ChangeAt Go.RowKit

def cellsL (l : List UInt8) : List Value := l.map fun b => Value.int .u8 b.toNat
theorem cellsL_append (a b : List UInt8) : cellsL (a ++ b) = cellsL a ++ cellsL b := by simp [cellsL]
theorem cellsL_len (a : List UInt8) : (cellsL a).length = a.length := by simp [cellsL]
theorem cellsL_word (x : Nat) (h : x < 4294967296) : cellsL (wordL x) = [.int .u8 ((x : Int) % 256), .int .u8 ((x : Int) / 256 % 256), .int .u8 ((x : Int) / 65536 % 256), .int .u8 ((x : Int) / 16777216)] := by
  simp only [cellsL, wordL, List.map_cons, List.map_nil, dg_nat, Nat.pow_zero, Nat.div_one, Nat.reducePow, List.cons.injEq, Value.int.injEq, true_and, and_true]
  omega

theorem cells4_new (w : World) (a b c d : Value) (t : TypeId) : ∀ (j : Nat) (u : Value), [a, b, c, d][j]? = some u → (w.alloc (.cells #[a, b, c, d] t)).cell? ((⟨w.heap.size, 0, none⟩ : Addr).add j) = some u := by
  intro j u hj
  rw [add_none, Nat.zero_add, World.cell?_alloc_at _ _ _ _ rfl]
  simpa using hj

/-- Bytes that are handed to append: none at all, or a row of cells. -/
def BytsA (w : World) (v : Value) (l : List UInt8) : Prop :=
  (v = .slice none 0 0 ∧ l = []) ∨ (∃ x cap, v = .slice (some x) 0 cap ∧ l = []) ∨
  ∃ b off cap, v = .slice (some ⟨b, off, none⟩) l.length cap ∧ l.length ≤ cap ∧ cap ≤ maxLen ∧ b < w.heap.size ∧ ∀ i, i < l.length → w.cell? ⟨b, off + i, none⟩ = some (.int .u8 (l.getD i 0).toNat)
theorem BytsA.byts {w : World} {v : Value} {l : List UInt8} (h : BytsA w v l) : Byts w v l := by
  rcases h with ⟨h1, h2⟩ | ⟨x, cap, h1, h2⟩ | h
  · exact .inl ⟨⟨_, _, h1⟩, h2⟩
  · exact .inl ⟨⟨_, _, h1⟩, h2⟩
  · exact .inr h
theorem BytsA.below {w w' : World} {v : Value} {l : List UInt8} (h : BytsA w v l) (hB : Below w.heap.size w w') : BytsA w' v l := by
  rcases h with h | h | ⟨b, off, cap, hv, hl, hc, hb, hcell⟩
  · exact .inl h
  · exact .inr (.inl h)
  · refine .inr (.inr ?_)
    exact ⟨b, off, cap, hv, hl, hc, Nat.lt_of_lt_of_le hb hB.size, fun i hi => by rw [hB.cell (p := ⟨b, off + i, none⟩) hb]; exact hcell i hi⟩
theorem BytsA.ofRow {w : World} {base : Nat} {v : Value} {l : List UInt8} (h : w.ownsRow base 5 1 v l.length (cellsL l)) : BytsA w v l := by
  rcases h.2 with ⟨hv, hn⟩ | ⟨g, cap, cur, hv, _, hg, hcap, hmax, hsz, htake⟩
  · exact .inl ⟨hv, List.eq_nil_of_length_eq_zero hn⟩
  · refine .inr (.inr ⟨g, 0, cap, hv, hcap, hmax, lt_of_block hg, fun i hi => ?_⟩)
    rw [block_cell hg]
    have e : (cur.toList.take (l.length * 1))[i]? = (cellsL l)[i]? := by rw [htake]
    rw [List.getElem?_take_of_lt (by omega), cellsL, List.getElem?_map, List.getElem?_eq_getElem hi] at e
    simpa [List.getD, hi] using e

theorem wpList_append_byts {w : World} {ops : Array Oper} {rest : List Oper} {o : Oper} {a : Act} {Q : Exit → Act → World → Prop} (hgd : o.guard = none) (s x : Operand)
    (ho : o.op = .call { callee := .builtin .append, args := #[s, x], argTypes := #[40, 40] }) (base : Nat) (v : Value) (n : Nat) (xs : List Value) (hs : a.eval s = v) (hown : w.ownsRow base 5 1 v n xs)
    (u : Value) (l : List UInt8) (hu : BytsA w u l) (hx : a.eval x = u) (hb : n + l.length ≤ 140737488355328) (hbase : base ≤ w.heap.size)
    (h : ∀ v' w', w'.ownsRow base 5 1 v' (n + l.length) (xs ++ cellsL l) → w.grownBy w' v.ownBlock → wpList Try.prog ops Q rest (a.put o.dst v') w') : wpList Try.prog ops Q (o :: rest) a w := by
  obtain ⟨i0, hi, hz0, hz1, hz2⟩ := info_parts Try.info5
  rcases hu with ⟨rfl, rfl⟩ | ⟨ad, cap, rfl, rfl⟩ | ⟨b, off, cap, rfl, hcap, hmax, hb2, hcell⟩
  · exact wpList_append_own_none hgd s x 40 ho base 5 i0 1 Try.underlying40 hi v n xs hs hown hx (h v w (by simpa [cellsL] using hown) ⟨rfl, rfl, rfl, Nat.le_refl _, fun _ _ _ => rfl⟩)
  · exact wpList_append_own w hgd s x 40 ho base 5 i0 (.int .u8 0) 1 1 Try.underlying40 hi hz0 hz1 hz2 rfl (by decide) v n xs hs hown ad 0 cap [] hx rfl (fun j u h => by simp at h) (fun u h => by simp at h) (by unfold maxLen; simp at hb; omega) (by simp at hb; omega) hbase (fun v' w' h1 h2 _ => h v' w' (by simpa [cellsL] using h1) h2)
  · refine wpList_append_own w hgd s x 40 ho base 5 i0 (.int .u8 0) 1 1 Try.underlying40 hi hz0 hz1 hz2 rfl (by decide) v n xs hs hown ⟨b, off, none⟩ l.length cap (cellsL l) hx (by rw [cellsL_len]; omega) ?_ ?_ (by unfold maxLen; omega) (by omega) hbase (fun v' w' h1 h2 _ => h v' w' h1 h2)
    · intro j y hj
      have hjl : j < l.length := by have := (List.getElem?_eq_some_iff.1 hj).1; rwa [cellsL_len] at this
      rw [add_none, hcell j hjl]
      rw [cellsL, List.getElem?_map, List.getElem?_eq_getElem hjl] at hj
      simpa [List.getD, hjl] using hj
    · intro y hy
      simp [cellsL] at hy
      obtain ⟨b, _, rfl⟩ := hy
      rfl

theorem nums_of2 (l : List UInt8) (i : Nat) (hi : i < l.length) : (List.map (fun b : UInt8 => (b.toNat : Int)) l).getD i 0 = ((l.getD i 0).toNat : Int) := by
  simp [List.getD, hi]
theorem byts_conv {w : World} {v : Value} {l : List UInt8} (h : BytsA w v l) : (convert 40 9 v).run Try.prog w = .ok (.string (mkB l)) w := by
  rcases h with ⟨rfl, rfl⟩ | ⟨x, cap, rfl, rfl⟩ | ⟨b, off, cap, rfl, hcap, hmax, hb2, hcell⟩
  · exact run_convert_bytes_nil _ 40 5 Try.underlying40 Try.underlying5 _ _ 9 Try.underlying9
  · exact run_convert_bytes_back w 40 9 5 x cap [] Try.underlying40 Try.underlying5 Try.underlying9 (fun j hj => by simp at hj)
  · rw [← nums_of]
    exact run_convert_bytes_arg _ 40 5 Try.underlying40 Try.underlying5 b off _ _ _ (by rw [List.length_map]) (fun i hi => by rw [nums_of2 l i hi]; exact hcell i hi) 9 Try.underlying9

set_option maxRecDepth 100000 in
set_option maxHeartbeats 400000 in
theorem put32_any (v : Value) (l : List UInt8) (x : Nat) (base : Nat) (w : World) (hx : x < 4294967296) (hown : w.ownsRow base 5 1 v l.length (cellsL l)) (hl : l.length ≤ 70368744177664) (hbase : base ≤ w.heap.size) :
    Calls Try.prog 69 #[v, .int .u32 x] w fun e w' => ∃ v', e = .returned v' ∧ w'.ownsRow base 5 1 v' (l.length + 4) (cellsL (l ++ wordL x)) ∧ Below base w w' := by
  obtain ⟨i0, hi, hz0, hz1, hz2⟩ := info_parts Try.info5
  have hcw := cellsL_word x hx
  have Hcw := Lib.hid hcw
  clear hcw
  go_enter Try.func69, Try.ntmps69
  go_wp2_with (at_builtin; go_must (refine wpList_append_own _ rfl (.tmp 5) (.tmp 17) 40 rfl base 5 i0 (.int .u8 0) 1 1 Try.underlying40 hi hz0 hz1 hz2 rfl (by decide) _ _ _ rfl (hown.alloc _) ⟨w.heap.size, 0, none⟩ 4 4 (cellsL (wordL x)) rfl rfl ?_ ?_ (by unfold maxLen; omega) (by omega) (by simp; omega) ?_))
  · rw [Hcw.out]; exact cells4_new _ _ _ _ _ _
  · intro u hu
    rw [Hcw.out] at hu
    simp at hu
    rcases hu with rfl | rfl | rfl | rfl <;> rfl
  · intro v1 w2 hown1 hgrow1 _
    go_wp2
    go_ret
    exact ⟨v1, rfl, by rw [cellsL_append]; exact hown1, ((Below.refl base w).alloc hbase _).grown hgrow1 (by simp; omega) (fun k hk => (hown.lt k hk).1)⟩
end Go.Proofs.Ytbdlmdmbaajcmaa.G
namespace Go.Proofs.Ytbdlmdmbaajcmaa.G
set_option linter.unusedVariables false
open Go.ChangeShapes Go.WideShapes Go.ChangeAt Go.RowKit

theorem strs_shape {w : World} {v : Value} {ss : List ByteArray} (h : Strs w v ss) : ∃ p cap, v = .slice p ss.length cap ∧ (0 < ss.length → ∃ b off, p = some ⟨b, off, none⟩ ∧ b < w.heap.size ∧ ss.length ≤ cap ∧ cap ≤ maxLen ∧ ∀ i, i < ss.length → w.cell? ⟨b, off + i, none⟩ = some (.string (ss.getD i ByteArray.empty))) := by
  rcases h with ⟨⟨p, cap, rfl⟩, rfl⟩ | ⟨b, off, cap, hv, hl, hm, hb, hcell⟩
  · exact ⟨p, cap, rfl, fun h => by simp at h⟩
  · exact ⟨_, cap, hv, fun _ => ⟨b, off, rfl, hb, hl, hm, hcell⟩⟩
theorem byts_shape {w : World} {v : Value} {l : List UInt8} (h : Byts w v l) : ∃ p cap, v = .slice p l.length cap := by
  rcases h with ⟨⟨p, cap, rfl⟩, rfl⟩ | ⟨b, off, cap, hv, _⟩
  · exact ⟨p, cap, rfl⟩
  · exact ⟨_, cap, hv⟩

/-- What one text adds. -/
def recP (s : ByteArray) : List UInt8 := if 65536 < s.size then [] else recL s
theorem recP_long {s : ByteArray} (h : 65536 < s.size) : recP s = [] := if_pos h
theorem recP_fits {s : ByteArray} (h : ¬ 65536 < s.size) : recP s = recL s := if_neg h
theorem recP_le (s : ByteArray) : (recP s).length ≤ 8 + s.size := by
  unfold recP; split
  · simp
  · rw [recL_len]; omega
theorem recsL_take (ss : List ByteArray) (k : Nat) (h : k < ss.length) : recsL (ss.take (k + 1)) = recsL (ss.take k) ++ recP (ss.getD k ByteArray.empty) := by
  rw [List.take_succ_eq_append_getElem h, recsL_append]
  simp only [recsL, List.append_nil]
  simp [recP, List.getD, h]
theorem recsL_le (ss : List ByteArray) : (recsL ss).length ≤ 8 * ss.length + total ss := by
  induction ss with
  | nil => simp [recsL]
  | cons s r ih =>
    have := recP_le s
    show (recP s ++ recsL r).length ≤ _
    rw [List.length_append]
    simp only [List.length_cons, total]
    omega

theorem len_word (a : List UInt8) (x : Nat) : (a ++ wordL x).length = a.length + 4 := by rw [List.length_append, wordL_len]
theorem below_trans' {B : Nat} {a b c : World} (h : Below B a b) (h2 : Below B b c) : Below B a c := h.trans h2

set_option maxRecDepth 100000 in
set_option maxHeartbeats 1000000 in
theorem put_any (v u : Value) (l : List UInt8) (ss : List ByteArray) (w : World) (hv : BytsA w v l) (hu : Strs w u ss) (hz : l.length + 8 * ss.length + total ss ≤ 1099511627776) :
    Calls Try.prog 47 #[v, u] w fun e w' => ∃ v', e = .returned v' ∧ w'.ownsRow w.heap.size 5 1 v' (l ++ recsL ss).length (cellsL (l ++ recsL ss)) ∧ Below w.heap.size w w' := by
  obtain ⟨i0, hi, hz0, hz1, hz2⟩ := info_parts Try.info5
  obtain ⟨p, cap, rfl, hp⟩ := strs_shape hu
  obtain ⟨p2, cap2, rfl⟩ := byts_shape hv.byts
  obtain ⟨len, hlen⟩ : ∃ len, len = ss.length := ⟨_, rfl⟩
  rw [← hlen] at hp hz
  have Hp := Lib.hid hp
  have Hz := Lib.hid hz
  have hv2 : ∀ w1, Below w.heap.size w w1 → BytsA w1 (.slice p2 l.length cap2) l := fun w1 hB => hv.below hB
  have Hv := Lib.hid hv2
  obtain ⟨n0, hn0⟩ : ∃ n0, n0 = l.length := ⟨_, rfl⟩
  rw [← hn0] at Hv hz
  have Hn0 := Lib.hid hn0
  rw [← hlen]
  have hr := recsL_le ss
  have Hlen := Lib.hid hlen
  have hn0z : n0 + 8 * len ≤ 1099511627776 := by omega
  rw [← hn0]
  clear hp hz hv hu hv2 hlen hr hn0
  go_enter Try.func47, Try.ntmps47
  go_wp2_with fail
  go_loop [5, 7, 15] (fun n _ i => ∃ k : Nat, k ≤ len ∧ i = .int .i64 k ∧ n = .int .i64 ((n0 + 8 * k + total (ss.take k) : Nat) : Int)) (fun _ _ i => len - (intOf i).toNat)
  case atStart => exact ⟨0, by omega, rfl, rfl⟩
  case round =>
    obtain ⟨k, hk, rfl, rfl⟩ := hrel
    have htm := total_mono ss k ss.length (by have := Hlen.out; omega) (Nat.le_refl _)
    rw [List.take_length] at htm
    have hqz : n0 + 8 * k + total (ss.take k) ≤ 1099511627776 := by have := Hz.out; have := Hn0.out; omega
    clear htm
    by_cases hlt : k < len
    · obtain ⟨b, off, rfl, hb, hcap, hmax, hcell⟩ := Hp.out (by omega)
      have hc := hcell k (by have := Hlen.out; omega)
      have htm := total_mono ss (k+1) ss.length (by have := Hlen.out; omega) (Nat.le_refl _)
      rw [List.take_length] at htm
      have hts := total_take ss k (by have := Hlen.out; omega)
      have Hts := Lib.hid hts
      obtain ⟨s, hs⟩ : ∃ s, s = ss.getD k ByteArray.empty := ⟨_, rfl⟩
      rw [← hs] at hc hts
      have hsz : total (ss.take k) + s.size ≤ 1099511627776 := by have := Hz.out; omega
      have Hs := Lib.hid hs
      unfold maxLen at hmax
      clear hs hts hcell htm
      generalize hqq : total (ss.take k) = q at *
      clear hqq
      go_wp2_with fail
      exact ⟨⟨k + 1, by omega, by go_num, by rw [Hts.out, ← Hs.out]; go_num⟩, by simp [intOf]; omega⟩
    · obtain rfl : k = len := by omega
      have hqz2 : n0 + 8 * k + total ss ≤ 1099511627776 := by have := Hz.out; have := Hn0.out; omega
      rw [show ss.take k = ss by rw [Hlen.out, List.take_length]] at *
      clear hqz
      generalize hqq : total ss = q at *
      have Hqq := Lib.hid hqq
      clear hqq
      go_wp2_with (first | (at_make; refine wpList_make_own _ rfl _ _ 40 rfl w.heap.size 5 i0 (.int .u8 0) 1 Try.underlying40 hi hz0 hz1 .i64 .i64 _ (n0 + 8 * k + q) rfl rfl (by omega) (by rw [hz2]; omega) (by unfold maxLen; omega) (Nat.le_refl _) ?_; intro w1 hown1 hgrow1; have hB1 : Below w.heap.size w w1 := (Below.refl _ w).grown hgrow1 (Nat.le_refl _) (fun k h => by cases h)) | (at_builtin; go_must (refine wpList_append_byts rfl (.tmp 27) (.tmp 28) rfl w.heap.size _ 0 [] rfl hown1 _ l (Hv.out w1 hB1) rfl (by have := Hn0.out; omega) hB1.size ?_); intro v2 w2 hown2 hgrow2; have hB2 : Below w.heap.size w w2 := hB1.grown hgrow2 hB1.size (fun k hk => (hown1.lt k hk).1); clear hown1 hgrow1 hgrow2 hB1))
      rw [Nat.zero_add, List.nil_append, ← Hn0.out] at hown2
      go_loopw [8, 10, 32] (fun ov _ i wr => ∃ j : Nat, j ≤ k ∧ i = .int .i64 j ∧ wr.ownsRow w.heap.size 5 1 ov (l ++ recsL (ss.take j)).length (cellsL (l ++ recsL (ss.take j))) ∧ Below w.heap.size w wr) (fun _ _ i _ => k - (intOf i).toNat)
      case atStart => exact ⟨0, by omega, rfl, by simpa [recsL, ← Hn0.out] using hown2, hB2⟩
      case round =>
        obtain ⟨j, hj, rfl, hown, hB⟩ := hrel
        clear hown2 hB2
        have hBs := hB.size
        have hjl : j ≤ ss.length := by have := Hlen.out; omega
        have hle := recsL_le (ss.take j)
        have htm := total_mono ss j ss.length hjl (Nat.le_refl _)
        rw [List.take_length, Hqq.out] at htm
        have hlen2 : (l ++ recsL (ss.take j)).length ≤ 1099511627776 := by
          have := Hn0.out
          rw [List.length_append]
          rw [List.length_take] at hle
          omega
        clear hle htm hjl
        by_cases hjk : j < k
        · obtain ⟨b, off, rfl, hb, hcap, hmax, hcell⟩ := Hp.out (by omega)
          have hc : wr.cell? ⟨b, off + j, none⟩ = some (.string (ss.getD j ByteArray.empty)) := by rw [hB.cell (p := ⟨b, off + j, none⟩) hb]; exact hcell j hjk
          have hrt := recsL_take ss j (by have := Hlen.out; omega)
          obtain ⟨s, hs⟩ : ∃ s, s = ss.getD j ByteArray.empty := ⟨_, rfl⟩
          rw [← hs] at hc hrt
          have hsz : s.size ≤ 1099511627776 := by
            have h1 := total_mono ss (j + 1) ss.length (by have := Hlen.out; omega) (Nat.le_refl _)
            have h2 := total_take ss j (by have := Hlen.out; omega)
            rw [List.take_length, Hqq.out] at h1
            rw [← hs] at h2
            omega
          have Hrt := Lib.hid hrt
          unfold maxLen at hmax
          clear hs hrt hcell
          generalize hL : l ++ recsL (ss.take j) = L at *
          have HL := Lib.hid hL
          clear hL
          by_cases hlong : 65536 < s.size
          · have h1 : decide ((65536 : Int) < (s.size : Int)) = true := by simp; omega
            have hrp := recP_long hlong
            have Hrp := Lib.hid hrp
            clear hrp hlong
            go_wp2_with fail
            refine ⟨⟨j + 1, by omega, by go_num, ?_, hB⟩, by simp [intOf]; omega⟩
            rw [Hrt.out, Hrp.out, List.append_nil, HL.out]
            exact hown
          · have h1 : decide ((65536 : Int) < (s.size : Int)) = false := by simp; omega
            have hrp := recP_fits hlong
            have Hrp := Lib.hid hrp
            have hk1 := fun w1 => check_any s w1 (by omega)
            have hcl := crc_lt s.data.toList
            have hL2 : L ++ (wordL s.size ++ (wordL (crc s.data.toList) ++ s.data.toList)) = l ++ recsL (ss.take (j + 1)) := by
              rw [Hrt.out, Hrp.out, ← List.append_assoc l, HL.out]; simp only [recL, List.append_assoc]
            have HL2 := Lib.hid hL2
            generalize crc s.data.toList = c at *
            have Hk := Lib.hid hk1
            clear hrp hk1 hL2
            go_wp2_with fail
            refine (put32_any _ L s.size w.heap.size _ (by omega) hown (by omega) hBs).mono ?_
            rintro e w3 ⟨v3, rfl, hown3, hB3⟩
            have hB03 := below_trans' hB hB3
            have hBs3 := hB03.size
            rw [← len_word L s.size] at hown3
            clear hown hB3 hc
            go_wp2_with fail
            refine (Hk.out _).mono ?_
            rintro e w4 ⟨rfl, rfl⟩
            go_wp2_with fail
            refine (put32_any _ (L ++ wordL s.size) c w.heap.size _ hcl hown3 (by rw [len_word]; omega) hBs3).mono ?_
            rintro e w5 ⟨v5, rfl, hown5, hB5⟩
            have hB05 := below_trans' hB03 hB5
            have hBs5 := hB05.size
            rw [← len_word (L ++ wordL s.size) c] at hown5
            clear hown3 hB5
            have hl5 : (L ++ wordL s.size ++ wordL c).length ≤ 1099511627784 := by rw [len_word, len_word]; omega
            go_wp2_with (at_builtin; go_must (refine Lib.wpList_append_own_string _ rfl (.tmp 48) (.tmp 49) 40 9 rfl w.heap.size 5 i0 Try.underlying40 Try.underlying9 hi hz0 hz1 hz2 _ _ _ rfl hown5 s rfl (by unfold maxLen; omega) (by omega) hBs5 ?_); intro v6 w6 hown6 hgrow6 _)
            refine ⟨⟨j + 1, by omega, by go_num, ?_, hB05.grown hgrow6 hBs5 (fun k hk => (hown5.lt k hk).1)⟩, by simp [intOf]; omega⟩
            rw [← HL2.out]
            have e2 : Lib.strCells s = cellsL s.data.toList := rfl
            rw [e2, ← cellsL_append] at hown6
            rw [show (L ++ wordL s.size ++ wordL c).length + s.size = (L ++ (wordL s.size ++ (wordL c ++ s.data.toList))).length by simp only [List.length_append, ba_len]; omega, List.append_assoc, List.append_assoc] at hown6
            exact hown6
        · obtain rfl : j = k := by omega
          rw [show ss.take j = ss by rw [Hlen.out, List.take_length]] at hown
          go_wp2_with fail
          go_ret
          exact ⟨_, rfl, hown, hB⟩
end Go.Proofs.Ytbdlmdmbaajcmaa.G
