/- Plain: records, put and split. -/
import Derived.Test.YtcbddkncaeancaaMa
import Derived.Laws.BytesArg
import Derived.Lib.Strings
namespace Go.Proofs.Ytcbddkncaeancaa

theorem ba_ext {a b : ByteArray} (h : a.data.toList = b.data.toList) : a = b := ByteArray.ext (Array.toList_inj.1 h)
theorem ba_append (a b : ByteArray) : (a ++ b).data.toList = a.data.toList ++ b.data.toList := by simp only [ByteArray.data_append, Array.toList_append]
theorem ba_len (a : ByteArray) : a.data.toList.length = a.size := (Lib.size_eq a).symm
def mkB (l : List UInt8) : ByteArray := ⟨l.toArray⟩
theorem mkB_toList (l : List UInt8) : (mkB l).data.toList = l := rfl
theorem mkB_append (a : List UInt8) (s : ByteArray) : mkB a ++ s = mkB (a ++ s.data.toList) := by
  apply ba_ext; rw [ba_append]; rfl
theorem mkB_data (s : ByteArray) : mkB s.data.toList = s := by cases s; rfl
theorem mkB_size (a : List UInt8) : (mkB a).size = a.length := by simp [mkB, ByteArray.size]
theorem mkB_inj {a b : List UInt8} (h : mkB a = mkB b) : a = b := congrArg (fun x : ByteArray => x.data.toList) h

def dg (x j : Nat) : UInt8 := UInt8.ofNat (x / 256 ^ j % 256)
theorem dg_nat (x j : Nat) : (dg x j).toNat = x / 256 ^ j % 256 := by simp [dg]
/-- A number's four bytes, the lowest first. -/
def wordL (x : Nat) : List UInt8 := [dg x 0, dg x 1, dg x 2, dg x 3]
theorem wordL_len (x : Nat) : (wordL x).length = 4 := rfl
/-- The number of four bytes. -/
def le4 (l : List UInt8) : Nat := (l.getD 0 0).toNat + 256 * (l.getD 1 0).toNat + 65536 * (l.getD 2 0).toNat + 16777216 * (l.getD 3 0).toNat
theorem le4_lt (l : List UInt8) : le4 l < 4294967296 := by
  have a := (l.getD 0 0).toNat_lt; have b := (l.getD 1 0).toNat_lt; have c := (l.getD 2 0).toNat_lt; have d := (l.getD 3 0).toNat_lt
  unfold le4; omega

theorem le4_word (x : Nat) (h : x < 4294967296) (r : List UInt8) : le4 (wordL x ++ r) = x := by
  simp only [le4, wordL, List.cons_append, List.getD_cons_zero, List.getD_cons_succ, dg_nat, Nat.pow_zero, Nat.div_one, Nat.reducePow]
  omega

theorem word_le4 (l : List UInt8) (h : 4 ≤ l.length) : wordL (le4 l) = l.take 4 := by
  match l, h with
  | a :: b :: c :: d :: r, _ =>
    have ha := a.toNat_lt; have hb := b.toNat_lt; have hc := c.toNat_lt; have hd := d.toNat_lt
    have e : le4 (a :: b :: c :: d :: r) = a.toNat + 256 * b.toNat + 65536 * c.toNat + 16777216 * d.toNat := rfl
    have key : ∀ (u : UInt8) (j : Nat), (dg (le4 (a :: b :: c :: d :: r)) j).toNat = u.toNat → dg (le4 (a :: b :: c :: d :: r)) j = u := fun u j h => UInt8.toNat_inj.1 h
    unfold wordL
    rw [key a 0, key b 1, key c 2, key d 3]
    · rfl
    all_goals (rw [dg_nat, e]; simp only [Nat.reducePow, Nat.pow_zero, Nat.div_one]; omega)

theorem word_inj {x y : Nat} (hx : x < 4294967296) (hy : y < 4294967296) (h : wordL x = wordL y) : x = y := by
  have a := le4_word x hx []
  have b := le4_word y hy []
  rw [h] at a; omega

/-- A record's bytes. -/
def recL (s : ByteArray) : List UInt8 := wordL s.size ++ wordL (crc s.data.toList) ++ s.data.toList
theorem recL_len (s : ByteArray) : (recL s).length = 8 + s.size := by
  unfold recL; rw [List.length_append, List.length_append, wordL_len, wordL_len, ba_len]
/-- What is put: those that aren't too long. -/
def recsL : List ByteArray → List UInt8 | [] => [] | s :: r => (if 65536 < s.size then [] else recL s) ++ recsL r
theorem recsL_append (a b : List ByteArray) : recsL (a ++ b) = recsL a ++ recsL b := by
  induction a with
  | nil => rfl
  | cons s r ih => simp only [List.cons_append, recsL, ih, List.append_assoc]

/-- The record that bytes begin with. -/
def wholeL (l : List UInt8) : Option ByteArray :=
  if l.length < 8 then none
  else if 65536 < le4 l ∨ l.length < le4 l + 8 then none
  else if crc ((l.drop 8).take (le4 l)) = le4 (l.drop 4) then some (mkB ((l.drop 8).take (le4 l))) else none

theorem wholeL_le {l : List UInt8} {s : ByteArray} (h : wholeL l = some s) : 8 + s.size ≤ l.length ∧ s.size ≤ 65536 := by
  unfold wholeL at h
  split at h
  · cases h
  · split at h
    · cases h
    · split at h
      · cases h
        rw [mkB_size, List.length_take, List.length_drop]
        omega
      · cases h

/-- All records, and how many bytes they are. -/
def splitL (l : List UInt8) : List ByteArray × Nat :=
  match h : wholeL l with
  | none => ([], 0)
  | some s => (s :: (splitL (l.drop (8 + s.size))).1, 8 + s.size + (splitL (l.drop (8 + s.size))).2)
termination_by l.length
decreasing_by all_goals (have := wholeL_le h; simp only [List.length_drop]; omega)

theorem splitL_none {l : List UInt8} (h : wholeL l = none) : splitL l = ([], 0) := by
  rw [splitL]; split
  · rfl
  · rename_i s h2; rw [h] at h2; cases h2
theorem splitL_some {l : List UInt8} {s : ByteArray} (h : wholeL l = some s) : splitL l = (s :: (splitL (l.drop (8 + s.size))).1, 8 + s.size + (splitL (l.drop (8 + s.size))).2) := by
  rw [splitL]; split
  · rename_i h2; rw [h] at h2; cases h2
  · rename_i u h2; rw [h] at h2; cases h2; rfl

/-- Behind records 'acc' stands what is at 'at'. -/
def Mid (l : List UInt8) (acc : List ByteArray) (n : Nat) : Prop := n ≤ l.length ∧ splitL l = (acc ++ (splitL (l.drop n)).1, n + (splitL (l.drop n)).2)
theorem Mid.start (l : List UInt8) : Mid l [] 0 := ⟨by omega, by simp⟩
theorem Mid.step {l : List UInt8} {acc : List ByteArray} {n : Nat} {s : ByteArray} (h : Mid l acc n) (hw : wholeL (l.drop n) = some s) : Mid l (acc ++ [s]) (n + 8 + s.size) := by
  have := wholeL_le hw
  rw [List.length_drop] at this
  refine ⟨by omega, ?_⟩
  rw [h.2, splitL_some hw, List.drop_drop, show n + (8 + s.size) = n + 8 + s.size by omega]
  simp only [List.append_assoc, List.cons_append, List.nil_append, Prod.mk.injEq]
  refine ⟨trivial, by omega⟩
theorem Mid.done {l : List UInt8} {acc : List ByteArray} {n : Nat} (h : Mid l acc n) (hw : wholeL (l.drop n) = none) : splitL l = (acc, n) := by
  rw [h.2, splitL_none hw]; simp

theorem whole_rec (s : ByteArray) (t : List UInt8) (h : s.size ≤ 65536) : wholeL (recL s ++ t) = some s := by
  have hl : (recL s ++ t).length = 8 + s.size + t.length := by rw [List.length_append, recL_len]
  have h1 : le4 (recL s ++ t) = s.size := by
    unfold recL; rw [List.append_assoc, List.append_assoc]; exact le4_word _ (by omega) _
  have h2 : le4 ((recL s ++ t).drop 4) = crc s.data.toList := by
    unfold recL; rw [List.append_assoc, List.append_assoc, List.drop_left' (wordL_len _)]; exact le4_word _ (crc_lt _) _
  have h3 : ((recL s ++ t).drop 8).take s.size = s.data.toList := by
    unfold recL
    rw [List.append_assoc, List.drop_left' (by rw [List.length_append, wordL_len, wordL_len]), List.take_left' (ba_len s)]
  unfold wholeL
  rw [hl, h1, if_neg (by omega), if_neg (by omega), h2, h3, if_pos rfl, mkB_data]

theorem split_recs (ss : List ByteArray) (t : List UInt8) (hs : ∀ s ∈ ss, s.size ≤ 65536) (ht : wholeL t = none) : splitL (recsL ss ++ t) = (ss, (recsL ss).length) := by
  induction ss with
  | nil => exact splitL_none ht
  | cons s r ih =>
    have h1 := hs s (by simp)
    have e : recsL (s :: r) ++ t = recL s ++ (recsL r ++ t) := by simp only [recsL]; rw [if_neg (by omega), List.append_assoc]
    have el : (recsL (s :: r)).length = 8 + s.size + (recsL r).length := by simp only [recsL]; rw [if_neg (by omega), List.length_append, recL_len]
    rw [e, splitL_some (whole_rec s _ h1), List.drop_left' (recL_len s), ih (fun p hp => hs p (by simp [hp])), el]

theorem whole_nil : wholeL [] = none := rfl
theorem split_put (ss : List ByteArray) (hs : ∀ s ∈ ss, s.size ≤ 65536) : splitL (recsL ss) = (ss, (recsL ss).length) := by
  have := split_recs ss [] hs whole_nil
  rwa [List.append_nil] at this

/-- A record that is cut isn't whole. -/
theorem whole_cut (s : ByteArray) (c : Nat) (h : c < 8 + s.size) (hs : s.size ≤ 65536) : wholeL ((recL s).take c) = none := by
  have hl : ((recL s).take c).length = c := by rw [List.length_take, recL_len]; omega
  unfold wholeL
  rw [hl]
  by_cases h8 : c < 8
  · rw [if_pos h8]
  · rw [if_neg h8, if_pos]
    right
    have : le4 ((recL s).take c) = s.size := by
      unfold recL
      rw [List.append_assoc, List.take_append, wordL_len, List.take_of_length_le (by rw [wordL_len]; omega)]
      exact le4_word _ (by omega) _
    omega
end Go.Proofs.Ytcbddkncaeancaa
