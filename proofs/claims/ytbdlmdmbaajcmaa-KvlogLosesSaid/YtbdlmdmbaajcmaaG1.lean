/- Plain: the check sum, as numbers; Plain: records, put and split; Walks: the check sum; Walks: lists of strings: whether two are the same; whether one is great; Walks: the document's words and records; Walks: the document's record at a beginning; Walks: the document's Split. -/
import Derived.Laws.BitsAllLaws
import Derived.Lib.Strings
import Derived.Laws.BytesArg
import Derived.Test.YtbdlmdmbaajcmaaProg
import Derived.Test.YtbdlmdmbaajcmaaKt
import Derived.Test.YtbdlmdmbaajcmaaKq
import Derived.WalkKit
import Derived.ProofKit
import Derived.OpenShut
import Derived.WalkSpells
import Derived.WalkLawsBesides
import Derived.Below
import Derived.Deep.DeepFit
import Derived.RegionTactic
import Derived.ChangeAlike
import Derived.Deep.QuietTactic
import Derived.Deep.LoopGhost
import Derived.BigQuiet
import Derived.Lib.SlBytesRow
import Derived.Laws.MakeOwn
import Derived.Laws.AppendOwn
import Derived.Deep.DeepMust
namespace Go.Proofs.Ytbdlmdmbaajcmaa.G

/-- One bit's step. -/
def st (x : Nat) : Nat := if x % 2 = 1 then (x / 2) ^^^ 2197175160 else x / 2

theorem xor_lt {a b : Nat} (ha : a < 4294967296) (hb : b < 4294967296) : a ^^^ b < 4294967296 := Nat.xor_lt_two_pow (n := 32) ha hb

theorem st_lt {x : Nat} (h : x < 4294967296) : st x < 4294967296 := by
  unfold st
  split
  · exact xor_lt (by omega) (by omega)
  · omega

theorem xor_cancel {a b c : Nat} (h : a ^^^ c = b ^^^ c) : a = b := by
  have := congrArg (· ^^^ c) h
  simpa [Nat.xor_assoc] using this

theorem high_half {x : Nat} (h : x < 4294967296) : (x / 2).testBit 31 = false := Nat.testBit_lt_two_pow (by omega)

theorem st_inj {x y : Nat} (hx : x < 4294967296) (hy : y < 4294967296) (h : st x = st y) : x = y := by
  have hp : (2197175160 : Nat).testBit 31 = true := by decide
  unfold st at h
  split at h <;> split at h
  · have := xor_cancel h; omega
  · have := congrArg (·.testBit 31) h
    simp [Nat.testBit_xor, high_half hx, high_half hy, hp] at this
  · have := congrArg (·.testBit 31) h
    simp [Nat.testBit_xor, high_half hx, high_half hy, hp] at this
  · omega

def stK : Nat → Nat → Nat | 0, x => x | k + 1, x => st (stK k x)
theorem stK_lt (k : Nat) {x : Nat} (h : x < 4294967296) : stK k x < 4294967296 := by
  induction k with
  | zero => exact h
  | succ k ih => exact st_lt ih
theorem stK_inj (k : Nat) {x y : Nat} (hx : x < 4294967296) (hy : y < 4294967296) (h : stK k x = stK k y) : x = y := by
  induction k with
  | zero => exact h
  | succ k ih => exact ih (st_inj (stK_lt k hx) (stK_lt k hy) h)

/-- A byte's step. -/
def by8 (c : Nat) (b : UInt8) : Nat := stK 8 (c ^^^ b.toNat)
theorem by8_lt {c : Nat} (b : UInt8) (h : c < 4294967296) : by8 c b < 4294967296 := stK_lt 8 (xor_lt h (by have := b.toNat_lt; omega))
def crcS (l : List UInt8) : Nat := l.foldl by8 4294967295
def crc (l : List UInt8) : Nat := crcS l ^^^ 4294967295

theorem fold_lt (l : List UInt8) : ∀ c, c < 4294967296 → l.foldl by8 c < 4294967296 := by
  induction l with
  | nil => intro c h; exact h
  | cons b r ih => intro c h; exact ih _ (by8_lt b h)
theorem crcS_lt (l : List UInt8) : crcS l < 4294967296 := fold_lt l _ (by omega)
theorem crc_lt (l : List UInt8) : crc l < 4294967296 := xor_lt (crcS_lt l) (by omega)

theorem fold_inj (l : List UInt8) : ∀ c d, c < 4294967296 → d < 4294967296 → l.foldl by8 c = l.foldl by8 d → c = d := by
  induction l with
  | nil => intro c d _ _ h; exact h
  | cons b r ih =>
    intro c d hc hd h
    have := ih _ _ (by8_lt b hc) (by8_lt b hd) h
    exact xor_cancel (stK_inj 8 (xor_lt hc (by have := b.toNat_lt; omega)) (xor_lt hd (by have := b.toNat_lt; omega)) this)

/-- One byte that is turned makes another check sum. -/
theorem crc_turned (l r : List UInt8) (a b : UInt8) (h : a ≠ b) : crc (l ++ a :: r) ≠ crc (l ++ b :: r) := by
  intro e
  have e1 := xor_cancel e
  unfold crcS at e1
  rw [List.foldl_append, List.foldl_append, List.foldl_cons, List.foldl_cons] at e1
  have hl := fold_lt l 4294967295 (by omega)
  have e2 := fold_inj r _ _ (by8_lt a hl) (by8_lt b hl) e1
  have e3 := stK_inj 8 (xor_lt hl (by have := a.toNat_lt; omega)) (xor_lt hl (by have := b.toNat_lt; omega)) e2
  rw [Nat.xor_comm, Nat.xor_comm _ b.toNat] at e3
  exact h (UInt8.toNat_inj.1 (xor_cancel e3))

theorem take_snoc (s : ByteArray) (k : Nat) (h : k < s.size) : s.data.toList.take (k + 1) = s.data.toList.take k ++ [s[k]] := by
  rw [List.take_succ_eq_append_getElem (by simpa using h)]; rfl
theorem crcS_take (s : ByteArray) (k : Nat) (h : k < s.size) : crcS (s.data.toList.take (k + 1)) = by8 (crcS (s.data.toList.take k)) s[k] := by
  rw [take_snoc s k h]; simp [crcS]
end Go.Proofs.Ytbdlmdmbaajcmaa.G
namespace Go.Proofs.Ytbdlmdmbaajcmaa.G

theorem ba_ext {a b : ByteArray} (h : a.data.toList = b.data.toList) : a = b := ByteArray.ext (Array.toList_inj.1 h)
theorem ba_append (a b : ByteArray) : (a ++ b).data.toList = a.data.toList ++ b.data.toList := by simp only [ByteArray.data_append, Array.toList_append]
theorem ba_len (a : ByteArray) : a.data.toList.length = a.size := (Lib.size_eq a).symm
def mkB (l : List UInt8) : ByteArray := ⟨l.toArray⟩
theorem mkB_toList (l : List UInt8) : (mkB l).data.toList = l := rfl
theorem mkB_append (a : List UInt8) (s : ByteArray) : mkB a ++ s = mkB (a ++ s.data.toList) := by
  apply ba_ext; rw [ba_append]; rfl
theorem mkB_data (s : ByteArray) : mkB s.data.toList = s := by cases s; rfl
theorem mkB_size (a : List UInt8) : (mkB a).size = a.length := by simp [mkB, ByteArray.size]
theorem mkB_inj {a b : List UInt8} (h : mkB a = mkB b) : a = b := congrArg (fun x : ByteArray => x.data.toList) h

def dg (x j : Nat) : UInt8 := UInt8.ofNat (x / 256 ^ j % 256)
theorem dg_nat (x j : Nat) : (dg x j).toNat = x / 256 ^ j % 256 := by simp [dg]
/-- A number's four bytes, the lowest first. -/
def wordL (x : Nat) : List UInt8 := [dg x 0, dg x 1, dg x 2, dg x 3]
theorem wordL_len (x : Nat) : (wordL x).length = 4 := rfl
/-- The number of four bytes. -/
def le4 (l : List UInt8) : Nat := (l.getD 0 0).toNat + 256 * (l.getD 1 0).toNat + 65536 * (l.getD 2 0).toNat + 16777216 * (l.getD 3 0).toNat
theorem le4_lt (l : List UInt8) : le4 l < 4294967296 := by
  have a := (l.getD 0 0).toNat_lt; have b := (l.getD 1 0).toNat_lt; have c := (l.getD 2 0).toNat_lt; have d := (l.getD 3 0).toNat_lt
  unfold le4; omega

theorem le4_word (x : Nat) (h : x < 4294967296) (r : List UInt8) : le4 (wordL x ++ r) = x := by
  simp only [le4, wordL, List.cons_append, List.getD_cons_zero, List.getD_cons_succ, dg_nat, Nat.pow_zero, Nat.div_one, Nat.reducePow]
  omega

theorem word_le4 (l : List UInt8) (h : 4 ≤ l.length) : wordL (le4 l) = l.take 4 := by
  match l, h with
  | a :: b :: c :: d :: r, _ =>
    have ha := a.toNat_lt; have hb := b.toNat_lt; have hc := c.toNat_lt; have hd := d.toNat_lt
    have e : le4 (a :: b :: c :: d :: r) = a.toNat + 256 * b.toNat + 65536 * c.toNat + 16777216 * d.toNat := rfl
    have key : ∀ (u : UInt8) (j : Nat), (dg (le4 (a :: b :: c :: d :: r)) j).toNat = u.toNat → dg (le4 (a :: b :: c :: d :: r)) j = u := fun u j h => UInt8.toNat_inj.1 h
    unfold wordL
    rw [key a 0, key b 1, key c 2, key d 3]
    · rfl
    all_goals (rw [dg_nat, e]; simp only [Nat.reducePow, Nat.pow_zero, Nat.div_one]; omega)

theorem word_inj {x y : Nat} (hx : x < 4294967296) (hy : y < 4294967296) (h : wordL x = wordL y) : x = y := by
  have a := le4_word x hx []
  have b := le4_word y hy []
  rw [h] at a; omega

/-- A record's bytes. -/
def recL (s : ByteArray) : List UInt8 := wordL s.size ++ wordL (crc s.data.toList) ++ s.data.toList
theorem recL_len (s : ByteArray) : (recL s).length = 8 + s.size := by
  unfold recL; rw [List.length_append, List.length_append, wordL_len, wordL_len, ba_len]
/-- What is put: those that aren't too long. -/
def recsL : List ByteArray → List UInt8 | [] => [] | s :: r => (if 65536 < s.size then [] else recL s) ++ recsL r
theorem recsL_append (a b : List ByteArray) : recsL (a ++ b) = recsL a ++ recsL b := by
  induction a with
  | nil => rfl
  | cons s r ih => simp only [List.cons_append, recsL, ih, List.append_assoc]

/-- The record that bytes begin with. -/
def wholeL (l : List UInt8) : Option ByteArray :=
  if l.length < 8 then none
  else if 65536 < le4 l ∨ l.length < le4 l + 8 then none
  else if crc ((l.drop 8).take (le4 l)) = le4 (l.drop 4) then some (mkB ((l.drop 8).take (le4 l))) else none

theorem wholeL_le {l : List UInt8} {s : ByteArray} (h : wholeL l = some s) : 8 + s.size ≤ l.length ∧ s.size ≤ 65536 := by
  unfold wholeL at h
  split at h
  · cases h
  · split at h
    · cases h
    · split at h
      · cases h
        rw [mkB_size, List.length_take, List.length_drop]
        omega
      · cases h

/-- All records, and how many bytes they are. -/
def splitL (l : List UInt8) : List ByteArray × Nat :=
  match h : wholeL l with
  | none => ([], 0)
  | some s => (s :: (splitL (l.drop (8 + s.size))).1, 8 + s.size + (splitL (l.drop (8 + s.size))).2)
termination_by l.length
decreasing_by all_goals (have := wholeL_le h; simp only [List.length_drop]; omega)

theorem splitL_none {l : List UInt8} (h : wholeL l = none) : splitL l = ([], 0) := by
  rw [splitL]; split
  · rfl
  · rename_i s h2; rw [h] at h2; cases h2
theorem splitL_some {l : List UInt8} {s : ByteArray} (h : wholeL l = some s) : splitL l = (s :: (splitL (l.drop (8 + s.size))).1, 8 + s.size + (splitL (l.drop (8 + s.size))).2) := by
  rw [splitL]; split
  · rename_i h2; rw [h] at h2; cases h2
  · rename_i u h2; rw [h] at h2; cases h2; rfl

/-- Behind records 'acc' stands what is at 'at'. -/
def Mid (l : List UInt8) (acc : List ByteArray) (n : Nat) : Prop := n ≤ l.length ∧ splitL l = (acc ++ (splitL (l.drop n)).1, n + (splitL (l.drop n)).2)
theorem Mid.start (l : List UInt8) : Mid l [] 0 := ⟨by omega, by simp⟩
theorem Mid.step {l : List UInt8} {acc : List ByteArray} {n : Nat} {s : ByteArray} (h : Mid l acc n) (hw : wholeL (l.drop n) = some s) : Mid l (acc ++ [s]) (n + 8 + s.size) := by
  have := wholeL_le hw
  rw [List.length_drop] at this
  refine ⟨by omega, ?_⟩
  rw [h.2, splitL_some hw, List.drop_drop, show n + (8 + s.size) = n + 8 + s.size by omega]
  simp only [List.append_assoc, List.cons_append, List.nil_append, Prod.mk.injEq]
  refine ⟨trivial, by omega⟩
theorem Mid.done {l : List UInt8} {acc : List ByteArray} {n : Nat} (h : Mid l acc n) (hw : wholeL (l.drop n) = none) : splitL l = (acc, n) := by
  rw [h.2, splitL_none hw]; simp

theorem whole_rec (s : ByteArray) (t : List UInt8) (h : s.size ≤ 65536) : wholeL (recL s ++ t) = some s := by
  have hl : (recL s ++ t).length = 8 + s.size + t.length := by rw [List.length_append, recL_len]
  have h1 : le4 (recL s ++ t) = s.size := by
    unfold recL; rw [List.append_assoc, List.append_assoc]; exact le4_word _ (by omega) _
  have h2 : le4 ((recL s ++ t).drop 4) = crc s.data.toList := by
    unfold recL; rw [List.append_assoc, List.append_assoc, List.drop_left' (wordL_len _)]; exact le4_word _ (crc_lt _) _
  have h3 : ((recL s ++ t).drop 8).take s.size = s.data.toList := by
    unfold recL
    rw [List.append_assoc, List.drop_left' (by rw [List.length_append, wordL_len, wordL_len]), List.take_left' (ba_len s)]
  unfold wholeL
  rw [hl, h1, if_neg (by omega), if_neg (by omega), h2, h3, if_pos rfl, mkB_data]

theorem split_recs (ss : List ByteArray) (t : List UInt8) (hs : ∀ s ∈ ss, s.size ≤ 65536) (ht : wholeL t = none) : splitL (recsL ss ++ t) = (ss, (recsL ss).length) := by
  induction ss with
  | nil => exact splitL_none ht
  | cons s r ih =>
    have h1 := hs s (by simp)
    have e : recsL (s :: r) ++ t = recL s ++ (recsL r ++ t) := by simp only [recsL]; rw [if_neg (by omega), List.append_assoc]
    have el : (recsL (s :: r)).length = 8 + s.size + (recsL r).length := by simp only [recsL]; rw [if_neg (by omega), List.length_append, recL_len]
    rw [e, splitL_some (whole_rec s _ h1), List.drop_left' (recL_len s), ih (fun p hp => hs p (by simp [hp])), el]

theorem whole_nil : wholeL [] = none := rfl
theorem split_put (ss : List ByteArray) (hs : ∀ s ∈ ss, s.size ≤ 65536) : splitL (recsL ss) = (ss, (recsL ss).length) := by
  have := split_recs ss [] hs whole_nil
  rwa [List.append_nil] at this

/-- A record that is cut isn't whole. -/
theorem whole_cut (s : ByteArray) (c : Nat) (h : c < 8 + s.size) (hs : s.size ≤ 65536) : wholeL ((recL s).take c) = none := by
  have hl : ((recL s).take c).length = c := by rw [List.length_take, recL_len]; omega
  unfold wholeL
  rw [hl]
  by_cases h8 : c < 8
  · rw [if_pos h8]
  · rw [if_neg h8, if_pos]
    right
    have : le4 ((recL s).take c) = s.size := by
      unfold recL
      rw [List.append_assoc, List.take_append, wordL_len, List.take_of_length_le (by rw [wordL_len]; omega)]
      exact le4_word _ (by omega) _
    omega
end Go.Proofs.Ytbdlmdmbaajcmaa.G
namespace Go.Proofs.Ytbdlmdmbaajcmaa.G
set_option linter.unusedVariables false
open Go.ChangeShapes Go.WideShapes Go.ChangeAt Go.RowKit

theorem mod2_cases (x : Nat) : x % 2 = 0 ∨ x % 2 = 1 := by omega
theorem turn_val (x : Nat) (h : x < 4294967296) : Value.int IntKind.u32 (bits BinOp.xor IntKind.u32 ((x : Int) / 2) (2197175160 * bits BinOp.and IntKind.u32 (x : Int) 1 % 4294967296)) = Value.int IntKind.u32 ((st x : Nat) : Int) := by
  have e : bits BinOp.and IntKind.u32 (x : Int) 1 = ((x % 2 : Nat) : Int) := by
    have := u32_and_nat x 1 h (by omega)
    rw [nat_mask1] at this
    exact this
  rw [e]
  congr 1
  unfold st
  rcases mod2_cases x with h2 | h2
  · rw [h2, if_neg (by omega)]
    have := u32_xor_nat (x / 2) 0 (by omega) (by omega)
    rw [Nat.xor_zero] at this
    have e1 : ((x / 2 : Nat) : Int) = (x : Int) / 2 := by omega
    rw [e1] at this
    simpa using this
  · rw [h2, if_pos rfl]
    have := u32_xor_nat (x / 2) 2197175160 (by omega) (by omega)
    have e1 : ((x / 2 : Nat) : Int) = (x : Int) / 2 := by omega
    rw [e1] at this
    simpa using this

set_option maxRecDepth 100000 in
set_option maxHeartbeats 1000000 in
theorem check_any (s : ByteArray) (w : World) (hs : s.size ≤ 9223372036854775807) :
    Calls Try.prog 70 #[.string s] w fun e w' => e = .returned (.int .u32 (crc s.data.toList : Nat)) ∧ w = w' := by
  go_enter Try.func70, Try.ntmps70
  go_wp2
  go_loopg [3, 7] s.size (fun g sum i wr => ∃ k : Nat, k + g = s.size ∧ i = .int .i64 k ∧ sum = .int .u32 (crcS (s.data.toList.take k) : Nat) ∧ wr = w)
  case atStart => exact ⟨0, by omega, rfl, rfl, rfl⟩
  case round =>
    obtain ⟨k, hk, rfl, rfl, rfl⟩ := hrel
    by_cases hlt : k < s.size
    · have hi : (k : Int) < s.size := by omega
      have hc := crcS_take s k hlt
      have h1 := crcS_lt (s.data.toList.take k)
      have h2 : s[k].toNat < 4294967296 := by have := s[k].toNat_lt; omega
      generalize crcS (s.data.toList.take k) = c at *
      have Hc := Lib.hid hc
      clear hc
      go_wp2
      obtain ⟨wo, rfl⟩ : ∃ wo : World, wo = wr := ⟨_, rfl⟩
      obtain ⟨gko, rfl⟩ : ∃ gko : Nat, gko = gk := ⟨_, rfl⟩
      have hx0 : bits BinOp.xor IntKind.u32 (c : Int) (s[k].toNat : Int) = ((c ^^^ s[k].toNat : Nat) : Int) := u32_xor_nat _ _ h1 h2
      rw [hx0]
      have hx1 : c ^^^ s[k].toNat < 4294967296 := xor_lt h1 h2
      have Hb : by8 c s[k] = stK 8 (c ^^^ s[k].toNat) := rfl
      generalize by8 c s[k] = q at *
      generalize c ^^^ s[k].toNat = x0 at *
      have HB := Lib.hid Hb
      clear Hb hx0 h1 h2
      go_loopg [3, 16] 8 (fun g sum i wr => ∃ j : Nat, j + g = 8 ∧ i = .int .i64 j ∧ sum = .int .u32 (stK j x0 : Nat) ∧ wr = wo)
      case atStart => exact ⟨0, by omega, rfl, rfl, rfl⟩
      case round =>
        obtain ⟨j, hj, rfl, rfl, rfl⟩ := hrel
        have hx := stK_lt j hx1
        have hst : stK (j + 1) x0 = st (stK j x0) := rfl
        generalize hxe : stK j x0 = x at *
        have Hst := Lib.hid hst
        have Hxe := Lib.hid hxe
        clear hst hxe
        by_cases hlt : j < 8
        · go_wp2
          go_roundg (gk - 1)
          case measure => omega
          case rel => exact ⟨j + 1, by omega, by go_num, by rw [Hst.out, turn_val x hx], rfl⟩
        · obtain rfl : j = 8 := by omega
          go_wp2
          go_roundg (gko - 1)
          case measure => omega
          case rel => exact ⟨k + 1, by omega, by go_num, by rw [Hc.out, HB.out, Hxe.out], rfl⟩
    · obtain rfl : k = s.size := by omega
      have h1 := crcS_lt (s.data.toList.take s.size)
      have hc : crc s.data.toList = crcS (s.data.toList.take s.size) ^^^ 4294967295 := by
        rw [List.take_of_length_le (by simp)]; rfl
      generalize crcS (s.data.toList.take s.size) = c at *
      have Hc := Lib.hid hc
      clear hc
      go_wp2
      go_ret
      refine ⟨?_, rfl⟩
      rw [Hc.out]
      show Ending.returned (Value.int IntKind.u32 (bits BinOp.xor IntKind.u32 ((4294967295 : Nat) : Int) (c : Int))) = _
      rw [u32_xor_nat _ _ (by omega) h1, Nat.xor_comm]

set_option maxRecDepth 100000 in
set_option maxHeartbeats 1000000 in
theorem refCheck_any (s : ByteArray) (w : World) (hs : s.size ≤ 9223372036854775807) :
    Calls Try.prog 87 #[.string s] w fun e w' => e = .returned (.int .u32 (crc s.data.toList : Nat)) ∧ w = w' := by
  go_enter Try.func87, Try.ntmps87
  go_wp2
  go_loopg [3, 4] s.size (fun g sum i wr => ∃ k : Nat, k + g = s.size ∧ i = .int .i64 k ∧ sum = .int .u32 (crcS (s.data.toList.take k) : Nat) ∧ wr = w)
  case atStart => exact ⟨0, by omega, rfl, rfl, rfl⟩
  case round =>
    obtain ⟨k, hk, rfl, rfl, rfl⟩ := hrel
    by_cases hlt : k < s.size
    · have hi : (k : Int) < s.size := by omega
      have hc := crcS_take s k hlt
      have h1 := crcS_lt (s.data.toList.take k)
      have h2 : s[k].toNat < 4294967296 := by have := s[k].toNat_lt; omega
      generalize crcS (s.data.toList.take k) = c at *
      have Hc := Lib.hid hc
      clear hc
      go_wp2
      obtain ⟨wo, rfl⟩ : ∃ wo : World, wo = wr := ⟨_, rfl⟩
      obtain ⟨gko, rfl⟩ : ∃ gko : Nat, gko = gk := ⟨_, rfl⟩
      have hx0 : bits BinOp.xor IntKind.u32 (c : Int) (s[k].toNat : Int) = ((c ^^^ s[k].toNat : Nat) : Int) := u32_xor_nat _ _ h1 h2
      rw [hx0]
      have hx1 : c ^^^ s[k].toNat < 4294967296 := xor_lt h1 h2
      have Hb : by8 c s[k] = stK 8 (c ^^^ s[k].toNat) := rfl
      generalize by8 c s[k] = q at *
      generalize c ^^^ s[k].toNat = x0 at *
      have HB := Lib.hid Hb
      clear Hb hx0 h1 h2
      go_loopg [3, 5] 8 (fun g sum i wr => ∃ j : Nat, j + g = 8 ∧ i = .int .i64 j ∧ sum = .int .u32 (stK j x0 : Nat) ∧ wr = wo)
      case atStart => exact ⟨0, by omega, rfl, rfl, rfl⟩
      case round =>
        obtain ⟨j, hj, rfl, rfl, rfl⟩ := hrel
        have hx := stK_lt j hx1
        have hst : stK (j + 1) x0 = st (stK j x0) := rfl
        generalize hxe : stK j x0 = x at *
        have Hst := Lib.hid hst
        have Hxe := Lib.hid hxe
        clear hst hxe
        by_cases hlt : j < 8
        · rcases mod2_cases x with h2 | h2
          · have h3 : (x : Int) % 2 = 0 := by omega
            have hv : st x = x / 2 := if_neg (by omega)
            have Hv := Lib.hid hv
            clear hv h2
            go_wp2
            go_roundg (gk - 1)
            case measure => omega
            case rel => exact ⟨j + 1, by omega, by go_num, by rw [Hst.out, Hv.out]; congr 1, rfl⟩
          · have h3 : (x : Int) % 2 = 1 := by omega
            have hv : st x = (x / 2) ^^^ 2197175160 := if_pos h2
            have Hv := Lib.hid hv
            have hq : bits BinOp.xor IntKind.u32 ((x : Int) / 2) 2197175160 = ((x / 2 ^^^ 2197175160 : Nat) : Int) := u32_xor_nat (x / 2) 2197175160 (by omega) (by omega)
            have Hq := Lib.hid hq
            clear hv h2 hq
            go_wp2
            go_roundg (gk - 1)
            case measure => omega
            case rel => exact ⟨j + 1, by omega, by go_num, by rw [Hst.out, Hv.out, ← Hq.out], rfl⟩
        · obtain rfl : j = 8 := by omega
          go_wp2
          go_roundg (gko - 1)
          case measure => omega
          case rel => exact ⟨k + 1, by omega, by go_num, by rw [Hc.out, HB.out, Hxe.out], rfl⟩
    · obtain rfl : k = s.size := by omega
      have h1 := crcS_lt (s.data.toList.take s.size)
      have hc : crc s.data.toList = crcS (s.data.toList.take s.size) ^^^ 4294967295 := by
        rw [List.take_of_length_le (by simp)]; rfl
      generalize crcS (s.data.toList.take s.size) = c at *
      have Hc := Lib.hid hc
      clear hc
      go_wp2
      go_ret
      refine ⟨?_, rfl⟩
      rw [Hc.out]
      show Ending.returned (Value.int IntKind.u32 (bits BinOp.xor IntKind.u32 (c : Int) ((4294967295 : Nat) : Int))) = _
      rw [u32_xor_nat _ _ h1 (by omega)]
end Go.Proofs.Ytbdlmdmbaajcmaa.G
namespace Go.Proofs.Ytbdlmdmbaajcmaa.G
open Go.ChangeShapes Go.WideShapes Go.ChangeAt Go.RowKit

/-- How many bytes texts have in all. -/
def total : List ByteArray → Nat | [] => 0 | s :: r => s.size + total r
theorem total_append (a b : List ByteArray) : total (a ++ b) = total a + total b := by
  induction a with
  | nil => simp [total]
  | cons s r ih => simp [total, ih]; omega

theorem total_take (ss : List ByteArray) (k : Nat) (h : k < ss.length) : total (ss.take (k + 1)) = total (ss.take k) + (ss.getD k ByteArray.empty).size := by
  rw [List.take_succ_eq_append_getElem h, total_append]
  simp [total, List.getD, h]

theorem total_mono (ss : List ByteArray) (k m : Nat) (h : k ≤ m) (hm : m ≤ ss.length) : total (ss.take k) ≤ total (ss.take m) := by
  induction m with
  | zero => have : k = 0 := by omega
            subst this; exact Nat.le_refl _
  | succ m ih =>
    by_cases e : k = m + 1
    · subst e; exact Nat.le_refl _
    · have := ih (by omega) (by omega)
      rw [total_take ss m (by omega)]
      omega

set_option maxRecDepth 100000 in
set_option maxHeartbeats 400000 in
theorem same_len (v u : Value) (a b : List ByteArray) (w : World) (hv : Strs w v a) (hu : Strs w u b) (hl : a.length ≠ b.length) (ha : a.length ≤ 9223372036854775807) (hb : b.length ≤ 9223372036854775807) :
    Calls Try.prog 37 #[v, u] w fun e w' => e = .returned (.bool false) ∧ w = w' := by
  obtain ⟨p, hp⟩ : ∃ p c, v = .slice p a.length c := by
    rcases hv with ⟨⟨pz, cz, rfl⟩, rfl⟩ | ⟨b, off, cap, rfl, _⟩
    · exact ⟨_, _, rfl⟩
    · exact ⟨_, _, rfl⟩
  obtain ⟨q, hq⟩ : ∃ p c, u = .slice p b.length c := by
    rcases hu with ⟨⟨pz2, cz2, rfl⟩, rfl⟩ | ⟨b, off, cap, rfl, _⟩
    · exact ⟨_, _, rfl⟩
    · exact ⟨_, _, rfl⟩
  obtain ⟨c, rfl⟩ := hp
  obtain ⟨d, rfl⟩ := hq
  clear hv hu
  generalize a.length = m at *
  generalize b.length = n at *
  have h1 : ((m : Int) != (n : Int)) = true := by rw [bne_iff_ne]; omega
  go_enter Try.func37, Try.ntmps37
  go_wp2
  go_ret
  exact ⟨rfl, rfl⟩

theorem toList_eq {x y : ByteArray} (h : (!x.toList == y.toList) = false) : x = y := by
  have : x.toList = y.toList := by simpa using h
  rw [Lib.toList_data, Lib.toList_data] at this
  exact ByteArray.ext (Array.toList_inj.1 this)

theorem toList_ne {x y : ByteArray} (h : (!x.toList == y.toList) = true) : x ≠ y := by
  rintro rfl
  simp at h

/-- Two rows of one length, held against each other. -/
def SameEnd (w : World) (a b : List ByteArray) (e : Ending) (w' : World) : Prop := e = .returned (.bool (decide (a = b))) ∧ ∃ k, w' = w.drewN k

set_option maxRecDepth 100000 in
set_option maxHeartbeats 400000 in
theorem same_rows (v u : Value) (a b : List ByteArray) (w : World) (hv : Strs w v a) (hu : Strs w u b) (hl : a.length = b.length) :
    Calls Try.prog 37 #[v, u] w (SameEnd w a b) := by
  rcases hv with ⟨⟨pz, cz, rfl⟩, rfl⟩ | ⟨b1, o1, c1, rfl, hc1, hm1, hb1, hcell1⟩
  · have : b = [] := by cases b with | nil => rfl | cons _ _ => simp at hl
    subst this
    rcases hu with ⟨⟨pz2, cz2, rfl⟩, _⟩ | ⟨b2, o2, c2, rfl, hc2, hm2, hb2, hcell2⟩
    all_goals
      go_enter Try.func37, Try.ntmps37
      go_wp2
      refine wp_loop_rounds 1 ?_
      rw [rounds_succ]
      go_wp2
      go_ret
      exact ⟨rfl, 0, rfl⟩
  · rcases hu with ⟨⟨pz2, cz2, rfl⟩, rfl⟩ | ⟨b2, o2, c2, rfl, hc2, hm2, hb2, hcell2⟩
    · have : a = [] := by cases a with | nil => rfl | cons _ _ => simp at hl
      subst this
      go_enter Try.func37, Try.ntmps37
      go_wp2
      refine wp_loop_rounds 1 ?_
      rw [rounds_succ]
      go_wp2
      go_ret
      exact ⟨rfl, 0, rfl⟩
    · rw [← hl] at hcell2 hc2 ⊢
      obtain ⟨len, hlen⟩ : ∃ len, len = a.length := ⟨_, rfl⟩
      rw [← hlen] at hcell1 hcell2 hc1 hc2 hl ⊢
      have Hlen := Lib.hid hlen
      have Hl := Lib.hid hl
      unfold maxLen at hm1 hm2
      clear hlen hl
      go_enter Try.func37, Try.ntmps37
      go_wp2
      go_loopw [5, 13] (fun _ i wr => ∃ k : Nat, k ≤ len ∧ i = .int .i64 k ∧ a.take k = b.take k ∧ ∃ j, wr = w.drewN j) (fun _ i _ => len - (intOf i).toNat)
      case atStart => exact ⟨0, by omega, rfl, by simp, 0, rfl⟩
      case round =>
        obtain ⟨k, hk, rfl, htk, j, rfl⟩ := hrel
        have Htk := Lib.hid htk
        clear htk
        by_cases hlt : k < len
        · have hx := hcell1 k hlt
          have hy := hcell2 k hlt
          have hkl : (k : Int) < (len : Int) := by omega
          have hk0 : 0 ≤ (k : Int) := by omega
          clear hcell1 hcell2
          obtain ⟨x, hxe⟩ : ∃ x, x = a.getD k ByteArray.empty := ⟨_, rfl⟩
          obtain ⟨y, hye⟩ : ∃ y, y = b.getD k ByteArray.empty := ⟨_, rfl⟩
          rw [← hxe] at hx
          rw [← hye] at hy
          have Hx := Lib.hid hxe
          have Hy := Lib.hid hye
          clear hxe hye
          go_wp2
          go_quiet (fail)
          go_wp2
          · rename_i hne
            go_ret
            refine ⟨?_, j + nq, by simp⟩
            have : a ≠ b := fun e => toList_ne hne (by rw [Hx.out, Hy.out, e])
            simp [this]
          · rename_i heq
            refine ⟨⟨k + 1, by omega, by go_num, ?_, _, rfl⟩, by simp [intOf]; omega⟩
            have h1 := toList_eq heq
            have h2 := Hlen.out
            have h3 := Hl.out
            rw [Hx.out, Hy.out, List.getD_eq_getElem?_getD, List.getD_eq_getElem?_getD, List.getElem?_eq_getElem (by omega), List.getElem?_eq_getElem (by omega)] at h1
            have e1 := List.take_succ_eq_append_getElem (l := a) (i := k) (by omega)
            have e2 := List.take_succ_eq_append_getElem (l := b) (i := k) (by omega)
            have h4 : a[k]'(by omega) = b[k]'(by omega) := by simpa using h1
            rw [e1, e2, Htk.out, h4]
        · obtain rfl : k = len := by omega
          clear hcell1 hcell2
          go_wp2
          go_ret
          refine ⟨?_, _, rfl⟩
          have h1 := Htk.out
          rw [Hlen.out, List.take_length, ← Hlen.out, Hl.out, List.take_length] at h1
          simp [h1]
theorem same_any (v u : Value) (a b : List ByteArray) (w : World) (hv : Strs w v a) (hu : Strs w u b) (ha : a.length ≤ 9223372036854775807) (hb : b.length ≤ 9223372036854775807) :
    Calls Try.prog 37 #[v, u] w fun e w' => e = .returned (.bool (decide (a = b))) ∧ ∃ k, w' = w.drewN k := by
  by_cases h : a.length = b.length
  · exact same_rows v u a b w hv hu h
  · have hne : ¬ a = b := fun e => h (by rw [e])
    exact (same_len v u a b w hv hu h ha hb).mono fun _ _ ⟨h1, h2⟩ => ⟨by simpa [hne] using h1, 0, by rw [← h2]; rfl⟩

theorem toList_beq_ne {x y : ByteArray} (h : x ≠ y) : (x.toList == y.toList) = false := by
  rw [beq_eq_false_iff_ne]
  intro e
  apply h
  rw [Lib.toList_data, Lib.toList_data] at e
  exact ba_ext e

/-- What is great, what isn't. -/
theorem great_case (ss : List ByteArray) : (8192 < total ss ∨ 60 < ss.length) ∨ (total ss ≤ 8192 ∧ ss.length ≤ 60) := by omega

theorem total_mem (ss : List ByteArray) : ∀ p ∈ ss, p.size ≤ total ss := by
  induction ss with
  | nil => intro p h; cases h
  | cons a r ih =>
    intro p h
    rcases List.mem_cons.1 h with rfl | h
    · simp [total]
    · have := ih p h; simp [total]; omega

/-- Whether a list is great, whatever it is. -/
def isGreat (ss : List ByteArray) : Bool := decide (8192 < total ss ∨ 60 < ss.length)

theorem not_great {ss : List ByteArray} (h : isGreat ss = false) : total ss ≤ 8192 ∧ ss.length ≤ 60 := by
  simp [isGreat] at h; omega


end Go.Proofs.Ytbdlmdmbaajcmaa.G
namespace Go.Proofs.Ytbdlmdmbaajcmaa.G
set_option linter.unusedVariables false
open Go.ChangeShapes Go.WideShapes Go.ChangeAt Go.RowKit

def headI (x k : Nat) : List Int := (List.range k).map fun j => ((x / 256 ^ j % 256 : Nat) : Int)
theorem headI_succ (x k : Nat) : headI x (k + 1) = headI x k ++ [((x / 256 ^ k % 256 : Nat) : Int)] := by simp [headI, List.range_succ]
theorem headI_len (x k : Nat) : (headI x k).length = k := by simp [headI]
theorem headI_all (x : Nat) : strOfNums (headI x 4) = mkB (wordL x) := by rfl
theorem nums_append (a b : List Int) : strOfNums a ++ strOfNums b = strOfNums (a ++ b) := by
  apply ByteArray.ext
  apply Array.toList_inj.1
  simp [strOfNums]

set_option maxRecDepth 100000 in
set_option maxHeartbeats 400000 in
theorem word_any (x : Nat) (hx : x < 4294967296) (w : World) :
    Calls Try.prog 86 #[.int .u32 x] w fun e w' => e = .returned (.string (mkB (wordL x))) ∧ Below w.heap.size w w' := by
  go_enter Try.func86, Try.ntmps86
  go_wp2
  go_loopw [0, 3, 4] (fun xv s i wr => ∃ k : Nat, k ≤ 4 ∧ i = .int .i64 k ∧ xv = .int .u32 ((x / 256 ^ k : Nat) : Int) ∧ s = .string (strOfNums (headI x k)) ∧ Below w.heap.size w wr) (fun _ _ i _ => 4 - (intOf i).toNat)
  case atStart => exact ⟨0, by omega, rfl, by simp, rfl, Below.refl _ _⟩
  case round =>
    obtain ⟨k, hk, rfl, rfl, rfl, hB⟩ := hrel
    by_cases hlt : k < 4
    · obtain ⟨q, hq⟩ : ∃ q, q = x / 256 ^ k := ⟨_, rfl⟩
      have hqx : q ≤ x := by rw [hq]; exact Nat.div_le_self _ _
      rw [← hq]
      have Hq := Lib.hid hq
      clear hq
      obtain ⟨t, ht⟩ : ∃ t, t = strOfNums (headI x k) := ⟨_, rfl⟩
      have hts : t.size ≤ 4 := by rw [ht, strOfNums_size, headI_len]; omega
      rw [← ht]
      have Ht := Lib.hid ht
      clear ht
      obtain ⟨c, hc⟩ : ∃ c, c = strOfNums [(q : Int) % 256] := ⟨_, rfl⟩
      have hcs : c.size ≤ 1 := by rw [hc, strOfNums_size]; simp
      have hcv : (convert 40 9 (.slice (some ⟨wr.heap.size, 0, none⟩) 1 1)).run Try.prog (wr.alloc (.cells #[.int .u8 ((q : Int) % 256)] 5)) = .ok (.string c) (wr.alloc (.cells #[.int .u8 ((q : Int) % 256)] 5)) := by
        rw [hc]
        exact run_convert_bytes_arg _ 40 5 Try.underlying40 Try.underlying5 _ 0 1 1 [(q : Int) % 256] rfl (fun i hi => by
          obtain rfl : i = 0 := by omega
          rw [Nat.add_zero, World.cell?_alloc_at _ _ _ _ rfl]; rfl) 9 Try.underlying9
      have Hc := Lib.hid hc
      clear hc
      go_wp2
      refine ⟨⟨k + 1, by omega, by go_num, ?_, ?_, hB.alloc hB.size _⟩, by simp [intOf]; omega⟩
      · rw [Nat.pow_succ, ← Nat.div_div_eq_div_mul, ← Hq.out]; go_num
      · rw [Hc.out, Ht.out, Hq.out, headI_succ, nums_append]; rfl
    · obtain rfl : k = 4 := by omega
      rw [headI_all]
      go_wp2
      go_ret
      exact ⟨rfl, hB⟩

theorem crc_lt' (s : ByteArray) : crc s.data.toList < 4294967296 := crc_lt _
theorem word_size (x : Nat) : (mkB (wordL x)).size = 4 := rfl

set_option maxRecDepth 100000 in
set_option maxHeartbeats 400000 in
theorem bytes_any (s : ByteArray) (w : World) (hs : s.size < 4294967296) :
    Calls Try.prog 80 #[.string s] w fun e w' => e = .returned (.string (mkB (recL s))) ∧ Below w.heap.size w w' := by
  have hr : mkB (wordL s.size) ++ mkB (wordL (crc s.data.toList)) ++ s = mkB (recL s) := by
    rw [mkB_append, mkB_append, mkB_toList]; rfl
  have hc := crc_lt' s
  have hc13 := fun w1 => refCheck_any s w1 (by omega)
  have z1 := word_size s.size
  have z2 := word_size (crc s.data.toList)
  have ha1 := fun w1 => word_any s.size hs w1
  have ha2 := fun w1 => word_any (crc s.data.toList) hc w1
  generalize crc s.data.toList = c at *
  generalize mkB (wordL s.size) = a at *
  generalize mkB (wordL c) = b at *
  generalize mkB (recL s) = r at *
  have Hr := Lib.hid hr
  have Ha1 := Lib.hid ha1
  have Ha2 := Lib.hid ha2
  have Hc := Lib.hid hc13
  have hab : (a ++ b).size = 8 := by rw [ByteArray.size_append]; omega
  clear hr ha1 ha2 hc13
  go_enter Try.func80, Try.ntmps80
  go_wp2_with fail
  refine (Ha1.out _).mono ?_
  rintro e w1 ⟨rfl, hB1⟩
  go_wp2_with fail
  refine (Hc.out _).mono ?_
  rintro e w2 ⟨rfl, rfl⟩
  go_wp2_with fail
  refine (Ha2.out _).mono ?_
  rintro e w2 ⟨rfl, hB2⟩
  go_wp2_with fail
  go_ret
  exact ⟨by rw [Hr.out]; rfl, hB1.trans (hB2.mono hB1.size)⟩
end Go.Proofs.Ytbdlmdmbaajcmaa.G
namespace Go.Proofs.Ytbdlmdmbaajcmaa.G
set_option linter.unusedVariables false
open Go.ChangeShapes Go.WideShapes Go.ChangeAt Go.RowKit

/-- An answer of a record: the text, and that it is whole; or none. -/
def WholeEnd (w : World) (r : Option ByteArray) (e : Ending) (w' : World) : Prop :=
  Below w.heap.size w w' ∧ match r with
  | none => ∃ t : ByteArray, e = .returned (.tuple #[.string t, .bool false])
  | some s => e = .returned (.tuple #[.string s, .bool true])

theorem wholeL_great (s : ByteArray) (h : 8 ≤ s.size) (hg : 65536 < le4 s.data.toList ∨ s.size < le4 s.data.toList + 8) : wholeL s.data.toList = none := by
  unfold wholeL
  rw [ba_len, if_neg (by omega), if_pos hg]

theorem wholeL_fits (s : ByteArray) (n : Nat) (h : 8 ≤ s.size) (hn : n = le4 s.data.toList) (h1 : n ≤ 65536) (h2 : n + 8 ≤ s.size) :
    wholeL s.data.toList = if crc (s.extract 8 (8 + n)).data.toList = le4 (s.data.toList.drop 4) then some (s.extract 8 (8 + n)) else none := by
  have e : (s.data.toList.drop 8).take n = (s.extract 8 (8 + n)).data.toList := by rw [Lib.extract_data]; congr 1; omega
  unfold wholeL
  rw [ba_len, if_neg (by omega), ← hn, if_neg (by omega), e, mkB_data]

theorem word_beq (s : ByteArray) (c : Nat) (h : 8 ≤ s.size) (hc : c < 4294967296) : ((mkB (wordL c)).toList == (s.extract 4 8).toList) = decide (c = le4 (s.data.toList.drop 4)) := by
  have hl : 4 ≤ (s.data.toList.drop 4).length := by rw [List.length_drop, ba_len]; omega
  have e : (s.extract 4 8).data.toList = (s.data.toList.drop 4).take 4 := by rw [Lib.extract_data]
  rw [Lib.toList_data, Lib.toList_data, mkB_toList, e, ← word_le4 _ hl]
  by_cases hh : c = le4 (s.data.toList.drop 4)
  · rw [← hh]; simp
  · have : wordL c ≠ wordL (le4 (s.data.toList.drop 4)) := fun e => hh (word_inj hc (le4_lt _) e)
    simp [hh, this]

theorem getD_of (s : ByteArray) (i : Nat) (h : i < s.size) : s.data.toList.getD i 0 = s[i]'h := by
  rw [List.getD_eq_getElem?_getD, List.getElem?_eq_getElem (by rw [ba_len]; exact h)]; rfl

end Go.Proofs.Ytbdlmdmbaajcmaa.G
namespace Go.Proofs.Ytbdlmdmbaajcmaa.G
set_option linter.unusedVariables false
open Go.ChangeShapes Go.WideShapes Go.ChangeAt Go.RowKit

theorem ownsRow_below {w w' : World} {base : Nat} {e : TypeId} {size : Nat} {v : Value} {n : Nat} {xs : List Value} (h : w.ownsRow base e size v n xs) (hB : Below w.heap.size w w') : w'.ownsRow base e size v n xs :=
  h.kept (row := none) ⟨hB.os, hB.tape, hB.output, hB.size, fun k hk _ => hB.block k hk⟩ (by cases v.ownBlock <;> simp)

theorem _root_.Go.Proofs.Ytbdlmdmbaajcmaa.Try.info9 : (Try.prog.info? 9).map (fun i => (i.zero, i.size, i.bytes)) = some (some (.string ⟨#[]⟩), 1, 16) := by kernel_rfl
theorem _root_.Go.Proofs.Ytbdlmdmbaajcmaa.Try.info5 : (Try.prog.info? 5).map (fun i => (i.zero, i.size, i.bytes)) = some (some (.int .u8 0), 1, 1) := by kernel_rfl

/-- Split's answer: the records, in memory, and how many bytes they are. -/
def SplitEnd (w : World) (r : List ByteArray × Nat) (e : Ending) (w' : World) : Prop :=
  Below w.heap.size w w' ∧ ∃ v, e = .returned (.tuple #[v, .int .i64 (r.2 : Nat)]) ∧ w'.ownsRow w.heap.size 9 1 v r.1.length (r.1.map Value.string)

theorem drop_data (s : ByteArray) (n : Nat) : (s.extract n s.size).data.toList = s.data.toList.drop n := by
  rw [Lib.extract_data, List.take_of_length_le (by rw [List.length_drop, ba_len]; omega)]

end Go.Proofs.Ytbdlmdmbaajcmaa.G
