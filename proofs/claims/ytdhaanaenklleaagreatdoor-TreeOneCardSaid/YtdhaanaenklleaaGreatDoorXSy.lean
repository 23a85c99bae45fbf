/- Walks: what is left of a text is taken in, and what stands behind it; Walks: what is left of a text is taken in, where it fills the block; Plain lemmas: a text's digest, block by block; the padded text gives the same; Walks: a text's digest; Walks: bytes with what stands behind them; Walks: the document's digest of bytes; Walks: Sum; what the document tells; Two rows of bytes, held against each other by value. -/
import Derived.Test.YtdhaanaenklleaaGreatDoorQ4
import Derived.Lib.IndexBytes
import Derived.Lib.AppendStr
import Derived.Laws.AppendOwnNone
import Derived.Laws.IdiomStrings
import Derived.Laws.OwnMore
import Derived.OwnWalk
import Derived.Deep.AppendLies
import Derived.Test.YtdhaanaenklleaaGreatDoorXSJk
import Derived.DeepKeys
namespace Go.Proofs.YtdhaanaenklleaaGreatDoor.S
set_option linter.unusedVariables false
open Go.ChangeShapes Go.WideShapes Go.ChangeAt Go.RowKit

def cb (m i : Nat) : Nat := m / 2 ^ (56 - 8 * i) % 256
def fin (Z : List Nat) (m : Nat) : List Nat := (List.range 64).map fun j => if j < 56 then Z.getD j 0 else cb m (j - 56)
def St.last (S : St) (r : List Nat) (m : Nat) : St := if r.length < 56 then S.block (fin (over (r ++ [128]) []) m) else (S.block (over (r ++ [128]) [])).block (fin [] m)
theorem St.last_lo (S : St) (r : List Nat) (m : Nat) (h : r.length < 56) : S.last r m = S.block (fin (over (r ++ [128]) []) m) := if_pos h
theorem St.last_hi (S : St) (r : List Nat) (m : Nat) (h : ¬ r.length < 56) : S.last r m = (S.block (over (r ++ [128]) [])).block (fin [] m) := if_neg h
theorem range_small {F : Nat → Nat} {n b : Nat} (hb : 0 < b) (h : ∀ j, j < n → F j < b) : Small b ((List.range n).map F) := fun j => by
  by_cases hj : j < n
  · rw [getD_range F n j hj]; exact h j hj
  · rw [List.getD_eq_getElem?_getD, List.getElem?_eq_none (by simp; omega)]; exact hb
theorem fin_small (Z : List Nat) (m : Nat) (h : Small 256 Z) : Small 256 (fin Z m) := range_small (by decide) fun j _ => by
  split
  · exact h j
  · exact Nat.mod_lt _ (by decide)
theorem over_small {a l : List Nat} (ha : Small 256 a) (hl : Small 256 l) : Small 256 (over a l) := range_small (by decide) fun j _ => by
  split
  · exact ha j
  · exact hl j
theorem nil_small : Small 256 [] := fun j => by simp
theorem St.block_ok (S : St) (B : List Nat) : (S.block B).ok := St.ok_plus _ _

set_option maxRecDepth 100000 in
set_option maxHeartbeats 1000000 in
theorem end_lo (s : ByteArray) (S : St) (base sb sz m : Nat) (w : World) (hS : Arr w sb 137 8 .u32 S.list) (hok : S.ok) (hK : KeysAt w) (hb0 : 0 < base) (hbase : base ≤ sb) (hsz : s.size < 56) (hm : m = sz * 8) (hm2 : sz < 1152921504606846976) :
    Calls Tryz.prog 93 #[.pointer (some ⟨sb, 0, none⟩), .string s, .int .i64 sz] w fun e w' => e = .returned (.tuple #[]) ∧ Below base w w' ∧ Arr w' sb 137 8 .u32 (S.last (bytesL s) m).list := by
  have hsb := hS.lt
  have hsl := fun w1 => slice42all w1 w.heap.size
  obtain ⟨r, hr⟩ : ∃ r, r = bytesL s := ⟨_, rfl⟩
  have hrl : r.length = s.size := by rw [hr, bytesL_len]
  have hrs : Small 256 r := hr ▸ bytesL_small s
  have HFin := Lib.hid (St.last_lo S r m (by omega))
  rw [← hr]
  obtain ⟨w1, hw1⟩ : ∃ w1, w1 = (w.alloc (.cells #[.int .u8 0, .int .u8 0, .int .u8 0, .int .u8 0, .int .u8 0, .int .u8 0, .int .u8 0, .int .u8 0, .int .u8 0, .int .u8 0, .int .u8 0, .int .u8 0, .int .u8 0, .int .u8 0, .int .u8 0, .int .u8 0, .int .u8 0, .int .u8 0, .int .u8 0, .int .u8 0, .int .u8 0, .int .u8 0, .int .u8 0, .int .u8 0, .int .u8 0, .int .u8 0, .int .u8 0, .int .u8 0, .int .u8 0, .int .u8 0, .int .u8 0, .int .u8 0, .int .u8 0, .int .u8 0, .int .u8 0, .int .u8 0, .int .u8 0, .int .u8 0, .int .u8 0, .int .u8 0, .int .u8 0, .int .u8 0, .int .u8 0, .int .u8 0, .int .u8 0, .int .u8 0, .int .u8 0, .int .u8 0, .int .u8 0, .int .u8 0, .int .u8 0, .int .u8 0, .int .u8 0, .int .u8 0, .int .u8 0, .int .u8 0, .int .u8 0, .int .u8 0, .int .u8 0, .int .u8 0, .int .u8 0, .int .u8 0, .int .u8 0, .int .u8 0] 138)).setRow w.heap.size (ints .u8 (over r [])) := ⟨_, rfl⟩
  have hcp : ∀ ty, (Builtin.copy_ #[56, 9] ty #[.slice (some ⟨w.heap.size, 0, none⟩) 64 64, .string s]).run Tryz.prog (w.alloc (.cells #[.int .u8 0, .int .u8 0, .int .u8 0, .int .u8 0, .int .u8 0, .int .u8 0, .int .u8 0, .int .u8 0, .int .u8 0, .int .u8 0, .int .u8 0, .int .u8 0, .int .u8 0, .int .u8 0, .int .u8 0, .int .u8 0, .int .u8 0, .int .u8 0, .int .u8 0, .int .u8 0, .int .u8 0, .int .u8 0, .int .u8 0, .int .u8 0, .int .u8 0, .int .u8 0, .int .u8 0, .int .u8 0, .int .u8 0, .int .u8 0, .int .u8 0, .int .u8 0, .int .u8 0, .int .u8 0, .int .u8 0, .int .u8 0, .int .u8 0, .int .u8 0, .int .u8 0, .int .u8 0, .int .u8 0, .int .u8 0, .int .u8 0, .int .u8 0, .int .u8 0, .int .u8 0, .int .u8 0, .int .u8 0, .int .u8 0, .int .u8 0, .int .u8 0, .int .u8 0, .int .u8 0, .int .u8 0, .int .u8 0, .int .u8 0, .int .u8 0, .int .u8 0, .int .u8 0, .int .u8 0, .int .u8 0, .int .u8 0, .int .u8 0, .int .u8 0] 138)) = .ok (.int .i64 (s.size : Int)) w1 := fun ty => by
    have h := copy_arr (w.alloc (.cells #[.int .u8 0, .int .u8 0, .int .u8 0, .int .u8 0, .int .u8 0, .int .u8 0, .int .u8 0, .int .u8 0, .int .u8 0, .int .u8 0, .int .u8 0, .int .u8 0, .int .u8 0, .int .u8 0, .int .u8 0, .int .u8 0, .int .u8 0, .int .u8 0, .int .u8 0, .int .u8 0, .int .u8 0, .int .u8 0, .int .u8 0, .int .u8 0, .int .u8 0, .int .u8 0, .int .u8 0, .int .u8 0, .int .u8 0, .int .u8 0, .int .u8 0, .int .u8 0, .int .u8 0, .int .u8 0, .int .u8 0, .int .u8 0, .int .u8 0, .int .u8 0, .int .u8 0, .int .u8 0, .int .u8 0, .int .u8 0, .int .u8 0, .int .u8 0, .int .u8 0, .int .u8 0, .int .u8 0, .int .u8 0, .int .u8 0, .int .u8 0, .int .u8 0, .int .u8 0, .int .u8 0, .int .u8 0, .int .u8 0, .int .u8 0, .int .u8 0, .int .u8 0, .int .u8 0, .int .u8 0, .int .u8 0, .int .u8 0, .int .u8 0, .int .u8 0] 138)) w.heap.size [] s ty (arr_zero (heap_alloc_new w _) rfl)
    rw [Nat.min_eq_left (by omega), ← hr, List.take_of_length_le (by omega), ← hw1] at h
    exact h
  have hA1 : Arr w1 w.heap.size 138 64 .u8 (over r []) := by
    rw [hw1]
    exact arr_ints (setRow_heap _ _ _ _ _ _ (heap_alloc_new w _)) (over_len _ _)
  have hB1 : Below w.heap.size w w1 := by
    rw [hw1]
    exact below_setRow ((Below.refl _ _).alloc (Nat.le_refl _) _) (Nat.le_refl _) _
  clear hw1
  have c1 := hA1.cell s.size (by omega)
  have f1 := hA1.free s.size
  obtain ⟨ZZ, hZZ⟩ : ∃ ZZ, ZZ = over (r ++ [128]) [] := ⟨_, rfl⟩
  have hA2 := hA1.set (i := s.size) (by omega) 128 ZZ (fun j hj => by
    rw [hZZ, over_get _ _ j hj, over_get _ _ j hj, List.length_append, List.length_cons, List.length_nil, getD_snoc, hrl]
    by_cases e : s.size = j
    · rw [if_pos e, if_pos (by omega), if_pos e]
    · rw [if_neg e, if_neg e]
      by_cases e2 : j < s.size
      · rw [if_pos (by omega), if_pos e2]
      · rw [if_neg (by omega), if_neg e2])
  have hZs : Small 256 ZZ := hZZ ▸ over_small (hrs.snoc (by decide)) nil_small
  have HZ := Lib.hid hA2
  obtain ⟨SS, hSS⟩ : ∃ SS, SS = S := ⟨_, rfl⟩
  have hSo : SS.ok := hSS ▸ hok
  have HSt := Lib.hid ((hSS ▸ (hS.below hB1).other ⟨w.heap.size, s.size, none⟩ (.int .u8 128) (by show sb ≠ w.heap.size; omega)) : Arr (w1.setCell ⟨w.heap.size, s.size, none⟩ (.int .u8 128)) sb 137 8 .u32 SS.list)
  have HBe := Lib.hid ((hB1.mono (by omega : base ≤ w.heap.size)).setCell (p := ⟨w.heap.size, s.size, none⟩) (by show base ≤ w.heap.size; omega) (.int .u8 128))
  have hf := HFin.out
  rw [← hZZ] at hf
  have hf2 : S.last r m = SS.block (fin ZZ m) := by rw [hSS]; exact hf
  have HFin := Lib.hid hf2
  clear hf hf2
  clear hA1 hB1 hA2 hS hok hSS hZZ hr hrs hrl
  have hmI : (sz : Int) * 8 = (m : Int) := by omega
  have hmb : m < 9223372036854775808 := by omega
  clear hm
  have hlo : (s.size : Int) < 56 := by omega
  go_enter Tryz.func93, Tryz.ntmps93
  go_wp2_with fail
  go_loopg [23] 8 (fun g iv wr => ∃ i : Nat, i + g = 8 ∧ iv = .int .i64 i ∧ (∃ l, Arr wr w.heap.size 138 64 .u8 l ∧ ∀ j, j < 64 → l.getD j 0 = if 56 ≤ j ∧ j < 56 + i then cb m (j - 56) else ZZ.getD j 0) ∧ Arr wr sb 137 8 .u32 SS.list ∧ Below base w wr)
  case atStart => exact ⟨0, by omega, rfl, ⟨ZZ, HZ.out, fun j hj => by rw [if_neg (by omega)]⟩, HSt.out, HBe.out⟩
  case round =>
    obtain ⟨i, hig, rfl, ⟨l, hA, hl⟩, hS2, hB⟩ := hrel
    have hi : i = 0 ∨ i = 1 ∨ i = 2 ∨ i = 3 ∨ i = 4 ∨ i = 5 ∨ i = 6 ∨ i = 7 ∨ i = 8 := by omega
    rcases hi with rfl | rfl | rfl | rfl | rfl | rfl | rfl | rfl | rfl
    · have c1 := hA.cell 56 (by omega)
      have f1 := hA.free 56
      have Hn := Lib.hid (fun (v : Nat) l' => hA.set (i := 56) (by omega) v l')
      have Hl := Lib.hid hl
      have HS3 := Lib.hid (fun v => hS2.other ⟨w.heap.size, 56, none⟩ v (by show sb ≠ w.heap.size; omega))
      have HB3 := Lib.hid (fun v => hB.setCell (p := ⟨w.heap.size, 56, none⟩) (by show base ≤ w.heap.size; omega) v)
      clear hA hl hS2 hB
      go_wp2_with fail
      go_roundg (gk - 1)
      case measure => omega
      case rel =>
        refine ⟨0 + 1, by omega, by go_num, ⟨_, ?_, fun j hj => getD_range (fun j => if 56 ≤ j ∧ j < 56 + (0 + 1) then cb m (j - 56) else ZZ.getD j 0) 64 j hj⟩, HS3.out _, HB3.out _⟩
        have e : (m : Int) / 72057594037927936 = ((cb m 0 : Nat) : Int) := by unfold cb; omega
        rw [e]
        refine Hn.out _ _ fun j hj => ?_
        rw [getD_range _ 64 j hj, Hl.out j hj]
        by_cases e1 : 56 = j
        · subst e1; rw [if_pos (by omega), if_pos rfl]
        · rw [if_neg e1]
          by_cases e2 : 56 ≤ j ∧ j < 56 + 0
          · rw [if_pos e2, if_pos (by omega)]
          · rw [if_neg e2, if_neg (by omega)]
    · have c1 := hA.cell 57 (by omega)
      have f1 := hA.free 57
      have Hn := Lib.hid (fun (v : Nat) l' => hA.set (i := 57) (by omega) v l')
      have Hl := Lib.hid hl
      have HS3 := Lib.hid (fun v => hS2.other ⟨w.heap.size, 57, none⟩ v (by show sb ≠ w.heap.size; omega))
      have HB3 := Lib.hid (fun v => hB.setCell (p := ⟨w.heap.size, 57, none⟩) (by show base ≤ w.heap.size; omega) v)
      clear hA hl hS2 hB
      go_wp2_with fail
      go_roundg (gk - 1)
      case measure => omega
      case rel =>
        refine ⟨1 + 1, by omega, by go_num, ⟨_, ?_, fun j hj => getD_range (fun j => if 56 ≤ j ∧ j < 56 + (1 + 1) then cb m (j - 56) else ZZ.getD j 0) 64 j hj⟩, HS3.out _, HB3.out _⟩
        have e : (m : Int) / 281474976710656 % 256 = ((cb m 1 : Nat) : Int) := by unfold cb; omega
        rw [e]
        refine Hn.out _ _ fun j hj => ?_
        rw [getD_range _ 64 j hj, Hl.out j hj]
        by_cases e1 : 57 = j
        · subst e1; rw [if_pos (by omega), if_pos rfl]
        · rw [if_neg e1]
          by_cases e2 : 56 ≤ j ∧ j < 56 + 1
          · rw [if_pos e2, if_pos (by omega)]
          · rw [if_neg e2, if_neg (by omega)]
    · have c1 := hA.cell 58 (by omega)
      have f1 := hA.free 58
      have Hn := Lib.hid (fun (v : Nat) l' => hA.set (i := 58) (by omega) v l')
      have Hl := Lib.hid hl
      have HS3 := Lib.hid (fun v => hS2.other ⟨w.heap.size, 58, none⟩ v (by show sb ≠ w.heap.size; omega))
      have HB3 := Lib.hid (fun v => hB.setCell (p := ⟨w.heap.size, 58, none⟩) (by show base ≤ w.heap.size; omega) v)
      clear hA hl hS2 hB
      go_wp2_with fail
      go_roundg (gk - 1)
      case measure => omega
      case rel =>
        refine ⟨2 + 1, by omega, by go_num, ⟨_, ?_, fun j hj => getD_range (fun j => if 56 ≤ j ∧ j < 56 + (2 + 1) then cb m (j - 56) else ZZ.getD j 0) 64 j hj⟩, HS3.out _, HB3.out _⟩
        have e : (m : Int) / 1099511627776 % 256 = ((cb m 2 : Nat) : Int) := by unfold cb; omega
        rw [e]
        refine Hn.out _ _ fun j hj => ?_
        rw [getD_range _ 64 j hj, Hl.out j hj]
        by_cases e1 : 58 = j
        · subst e1; rw [if_pos (by omega), if_pos rfl]
        · rw [if_neg e1]
          by_cases e2 : 56 ≤ j ∧ j < 56 + 2
          · rw [if_pos e2, if_pos (by omega)]
          · rw [if_neg e2, if_neg (by omega)]
    · have c1 := hA.cell 59 (by omega)
      have f1 := hA.free 59
      have Hn := Lib.hid (fun (v : Nat) l' => hA.set (i := 59) (by omega) v l')
      have Hl := Lib.hid hl
      have HS3 := Lib.hid (fun v => hS2.other ⟨w.heap.size, 59, none⟩ v (by show sb ≠ w.heap.size; omega))
      have HB3 := Lib.hid (fun v => hB.setCell (p := ⟨w.heap.size, 59, none⟩) (by show base ≤ w.heap.size; omega) v)
      clear hA hl hS2 hB
      go_wp2_with fail
      go_roundg (gk - 1)
      case measure => omega
      case rel =>
        refine ⟨3 + 1, by omega, by go_num, ⟨_, ?_, fun j hj => getD_range (fun j => if 56 ≤ j ∧ j < 56 + (3 + 1) then cb m (j - 56) else ZZ.getD j 0) 64 j hj⟩, HS3.out _, HB3.out _⟩
        have e : (m : Int) / 4294967296 % 256 = ((cb m 3 : Nat) : Int) := by unfold cb; omega
        rw [e]
        refine Hn.out _ _ fun j hj => ?_
        rw [getD_range _ 64 j hj, Hl.out j hj]
        by_cases e1 : 59 = j
        · subst e1; rw [if_pos (by omega), if_pos rfl]
        · rw [if_neg e1]
          by_cases e2 : 56 ≤ j ∧ j < 56 + 3
          · rw [if_pos e2, if_pos (by omega)]
          · rw [if_neg e2, if_neg (by omega)]
    · have c1 := hA.cell 60 (by omega)
      have f1 := hA.free 60
      have Hn := Lib.hid (fun (v : Nat) l' => hA.set (i := 60) (by omega) v l')
      have Hl := Lib.hid hl
      have HS3 := Lib.hid (fun v => hS2.other ⟨w.heap.size, 60, none⟩ v (by show sb ≠ w.heap.size; omega))
      have HB3 := Lib.hid (fun v => hB.setCell (p := ⟨w.heap.size, 60, none⟩) (by show base ≤ w.heap.size; omega) v)
      clear hA hl hS2 hB
      go_wp2_with fail
      go_roundg (gk - 1)
      case measure => omega
      case rel =>
        refine ⟨4 + 1, by omega, by go_num, ⟨_, ?_, fun j hj => getD_range (fun j => if 56 ≤ j ∧ j < 56 + (4 + 1) then cb m (j - 56) else ZZ.getD j 0) 64 j hj⟩, HS3.out _, HB3.out _⟩
        have e : (m : Int) / 16777216 % 256 = ((cb m 4 : Nat) : Int) := by unfold cb; omega
        rw [e]
        refine Hn.out _ _ fun j hj => ?_
        rw [getD_range _ 64 j hj, Hl.out j hj]
        by_cases e1 : 60 = j
        · subst e1; rw [if_pos (by omega), if_pos rfl]
        · rw [if_neg e1]
          by_cases e2 : 56 ≤ j ∧ j < 56 + 4
          · rw [if_pos e2, if_pos (by omega)]
          · rw [if_neg e2, if_neg (by omega)]
    · have c1 := hA.cell 61 (by omega)
      have f1 := hA.free 61
      have Hn := Lib.hid (fun (v : Nat) l' => hA.set (i := 61) (by omega) v l')
      have Hl := Lib.hid hl
      have HS3 := Lib.hid (fun v => hS2.other ⟨w.heap.size, 61, none⟩ v (by show sb ≠ w.heap.size; omega))
      have HB3 := Lib.hid (fun v => hB.setCell (p := ⟨w.heap.size, 61, none⟩) (by show base ≤ w.heap.size; omega) v)
      clear hA hl hS2 hB
      go_wp2_with fail
      go_roundg (gk - 1)
      case measure => omega
      case rel =>
        refine ⟨5 + 1, by omega, by go_num, ⟨_, ?_, fun j hj => getD_range (fun j => if 56 ≤ j ∧ j < 56 + (5 + 1) then cb m (j - 56) else ZZ.getD j 0) 64 j hj⟩, HS3.out _, HB3.out _⟩
        have e : (m : Int) / 65536 % 256 = ((cb m 5 : Nat) : Int) := by unfold cb; omega
        rw [e]
        refine Hn.out _ _ fun j hj => ?_
        rw [getD_range _ 64 j hj, Hl.out j hj]
        by_cases e1 : 61 = j
        · subst e1; rw [if_pos (by omega), if_pos rfl]
        · rw [if_neg e1]
          by_cases e2 : 56 ≤ j ∧ j < 56 + 5
          · rw [if_pos e2, if_pos (by omega)]
          · rw [if_neg e2, if_neg (by omega)]
    · have c1 := hA.cell 62 (by omega)
      have f1 := hA.free 62
      have Hn := Lib.hid (fun (v : Nat) l' => hA.set (i := 62) (by omega) v l')
      have Hl := Lib.hid hl
      have HS3 := Lib.hid (fun v => hS2.other ⟨w.heap.size, 62, none⟩ v (by show sb ≠ w.heap.size; omega))
      have HB3 := Lib.hid (fun v => hB.setCell (p := ⟨w.heap.size, 62, none⟩) (by show base ≤ w.heap.size; omega) v)
      clear hA hl hS2 hB
      go_wp2_with fail
      go_roundg (gk - 1)
      case measure => omega
      case rel =>
        refine ⟨6 + 1, by omega, by go_num, ⟨_, ?_, fun j hj => getD_range (fun j => if 56 ≤ j ∧ j < 56 + (6 + 1) then cb m (j - 56) else ZZ.getD j 0) 64 j hj⟩, HS3.out _, HB3.out _⟩
        have e : (m : Int) / 256 % 256 = ((cb m 6 : Nat) : Int) := by unfold cb; omega
        rw [e]
        refine Hn.out _ _ fun j hj => ?_
        rw [getD_range _ 64 j hj, Hl.out j hj]
        by_cases e1 : 62 = j
        · subst e1; rw [if_pos (by omega), if_pos rfl]
        · rw [if_neg e1]
          by_cases e2 : 56 ≤ j ∧ j < 56 + 6
          · rw [if_pos e2, if_pos (by omega)]
          · rw [if_neg e2, if_neg (by omega)]
    · have c1 := hA.cell 63 (by omega)
      have f1 := hA.free 63
      have Hn := Lib.hid (fun (v : Nat) l' => hA.set (i := 63) (by omega) v l')
      have Hl := Lib.hid hl
      have HS3 := Lib.hid (fun v => hS2.other ⟨w.heap.size, 63, none⟩ v (by show sb ≠ w.heap.size; omega))
      have HB3 := Lib.hid (fun v => hB.setCell (p := ⟨w.heap.size, 63, none⟩) (by show base ≤ w.heap.size; omega) v)
      clear hA hl hS2 hB
      go_wp2_with fail
      go_roundg (gk - 1)
      case measure => omega
      case rel =>
        refine ⟨7 + 1, by omega, by go_num, ⟨_, ?_, fun j hj => getD_range (fun j => if 56 ≤ j ∧ j < 56 + (7 + 1) then cb m (j - 56) else ZZ.getD j 0) 64 j hj⟩, HS3.out _, HB3.out _⟩
        have e : (m : Int) % 256 = ((cb m 7 : Nat) : Int) := by unfold cb; omega
        rw [e]
        refine Hn.out _ _ fun j hj => ?_
        rw [getD_range _ 64 j hj, Hl.out j hj]
        by_cases e1 : 63 = j
        · subst e1; rw [if_pos (by omega), if_pos rfl]
        · rw [if_neg e1]
          by_cases e2 : 56 ≤ j ∧ j < 56 + 7
          · rw [if_pos e2, if_pos (by omega)]
          · rw [if_neg e2, if_neg (by omega)]
    · have hA2 : Arr wr w.heap.size 138 64 .u8 (fin ZZ m) := hA.congr fun j hj => by
        rw [hl j hj, fin, getD_range _ 64 j hj]
        by_cases e : j < 56
        · rw [if_pos e, if_neg (by omega)]
        · rw [if_neg e, if_pos (by omega)]
      have HT := Lib.hid (take_any (fin ZZ m) SS base sb w.heap.size 138 wr hA2 hS2 (by omega) (fin_small ZZ m hZs) hSo (hK.below (by omega) hB) hb0 hbase)
      have HBl := Lib.hid hB
      clear hA hA2 hl hS2 hB
      go_wp2_with fail
      refine HT.out.mono ?_
      rintro r2 w9 ⟨rfl, h1, h2, h3⟩
      have H1 := Lib.hid h1
      have H3 := Lib.hid h3
      clear h1 h2 h3
      go_wp2_with fail
      refine bodyPost_end (v := .tuple #[]) (by simp [results, Tryz.results93]) rfl ⟨rfl, HBl.out.trans H1.out, ?_⟩
      rw [HFin.out]
      exact H3.out
end Go.Proofs.YtdhaanaenklleaaGreatDoor.S
namespace Go.Proofs.YtdhaanaenklleaaGreatDoor.S
set_option linter.unusedVariables false
open Go.ChangeShapes Go.WideShapes Go.ChangeAt Go.RowKit

set_option maxRecDepth 100000 in
set_option maxHeartbeats 1000000 in
theorem end_hi (s : ByteArray) (S : St) (base sb sz m : Nat) (w : World) (hS : Arr w sb 137 8 .u32 S.list) (hok : S.ok) (hK : KeysAt w) (hb0 : 0 < base) (hbase : base ≤ sb) (hsz : 56 ≤ s.size) (hs64 : s.size < 64) (hm : m = sz * 8) (hm2 : sz < 1152921504606846976) :
    Calls Tryz.prog 93 #[.pointer (some ⟨sb, 0, none⟩), .string s, .int .i64 sz] w fun e w' => e = .returned (.tuple #[]) ∧ Below base w w' ∧ Arr w' sb 137 8 .u32 (S.last (bytesL s) m).list := by
  have hsb := hS.lt
  have hsl := fun w1 => slice42all w1 w.heap.size
  obtain ⟨r, hr⟩ : ∃ r, r = bytesL s := ⟨_, rfl⟩
  have hrl : r.length = s.size := by rw [hr, bytesL_len]
  have hrs : Small 256 r := hr ▸ bytesL_small s
  have hf := St.last_hi S r m (by omega)
  rw [← hr]
  obtain ⟨w1, hw1⟩ : ∃ w1, w1 = (w.alloc (.cells #[.int .u8 0, .int .u8 0, .int .u8 0, .int .u8 0, .int .u8 0, .int .u8 0, .int .u8 0, .int .u8 0, .int .u8 0, .int .u8 0, .int .u8 0, .int .u8 0, .int .u8 0, .int .u8 0, .int .u8 0, .int .u8 0, .int .u8 0, .int .u8 0, .int .u8 0, .int .u8 0, .int .u8 0, .int .u8 0, .int .u8 0, .int .u8 0, .int .u8 0, .int .u8 0, .int .u8 0, .int .u8 0, .int .u8 0, .int .u8 0, .int .u8 0, .int .u8 0, .int .u8 0, .int .u8 0, .int .u8 0, .int .u8 0, .int .u8 0, .int .u8 0, .int .u8 0, .int .u8 0, .int .u8 0, .int .u8 0, .int .u8 0, .int .u8 0, .int .u8 0, .int .u8 0, .int .u8 0, .int .u8 0, .int .u8 0, .int .u8 0, .int .u8 0, .int .u8 0, .int .u8 0, .int .u8 0, .int .u8 0, .int .u8 0, .int .u8 0, .int .u8 0, .int .u8 0, .int .u8 0, .int .u8 0, .int .u8 0, .int .u8 0, .int .u8 0] 138)).setRow w.heap.size (ints .u8 (over r [])) := ⟨_, rfl⟩
  have hcp : ∀ ty, (Builtin.copy_ #[56, 9] ty #[.slice (some ⟨w.heap.size, 0, none⟩) 64 64, .string s]).run Tryz.prog (w.alloc (.cells #[.int .u8 0, .int .u8 0, .int .u8 0, .int .u8 0, .int .u8 0, .int .u8 0, .int .u8 0, .int .u8 0, .int .u8 0, .int .u8 0, .int .u8 0, .int .u8 0, .int .u8 0, .int .u8 0, .int .u8 0, .int .u8 0, .int .u8 0, .int .u8 0, .int .u8 0, .int .u8 0, .int .u8 0, .int .u8 0, .int .u8 0, .int .u8 0, .int .u8 0, .int .u8 0, .int .u8 0, .int .u8 0, .int .u8 0, .int .u8 0, .int .u8 0, .int .u8 0, .int .u8 0, .int .u8 0, .int .u8 0, .int .u8 0, .int .u8 0, .int .u8 0, .int .u8 0, .int .u8 0, .int .u8 0, .int .u8 0, .int .u8 0, .int .u8 0, .int .u8 0, .int .u8 0, .int .u8 0, .int .u8 0, .int .u8 0, .int .u8 0, .int .u8 0, .int .u8 0, .int .u8 0, .int .u8 0, .int .u8 0, .int .u8 0, .int .u8 0, .int .u8 0, .int .u8 0, .int .u8 0, .int .u8 0, .int .u8 0, .int .u8 0, .int .u8 0] 138)) = .ok (.int .i64 (s.size : Int)) w1 := fun ty => by
    have h := copy_arr (w.alloc (.cells #[.int .u8 0, .int .u8 0, .int .u8 0, .int .u8 0, .int .u8 0, .int .u8 0, .int .u8 0, .int .u8 0, .int .u8 0, .int .u8 0, .int .u8 0, .int .u8 0, .int .u8 0, .int .u8 0, .int .u8 0, .int .u8 0, .int .u8 0, .int .u8 0, .int .u8 0, .int .u8 0, .int .u8 0, .int .u8 0, .int .u8 0, .int .u8 0, .int .u8 0, .int .u8 0, .int .u8 0, .int .u8 0, .int .u8 0, .int .u8 0, .int .u8 0, .int .u8 0, .int .u8 0, .int .u8 0, .int .u8 0, .int .u8 0, .int .u8 0, .int .u8 0, .int .u8 0, .int .u8 0, .int .u8 0, .int .u8 0, .int .u8 0, .int .u8 0, .int .u8 0, .int .u8 0, .int .u8 0, .int .u8 0, .int .u8 0, .int .u8 0, .int .u8 0, .int .u8 0, .int .u8 0, .int .u8 0, .int .u8 0, .int .u8 0, .int .u8 0, .int .u8 0, .int .u8 0, .int .u8 0, .int .u8 0, .int .u8 0, .int .u8 0, .int .u8 0] 138)) w.heap.size [] s ty (arr_zero (heap_alloc_new w _) rfl)
    rw [Nat.min_eq_left (by omega), ← hr, List.take_of_length_le (by omega), ← hw1] at h
    exact h
  have hA1 : Arr w1 w.heap.size 138 64 .u8 (over r []) := by
    rw [hw1]
    exact arr_ints (setRow_heap _ _ _ _ _ _ (heap_alloc_new w _)) (over_len _ _)
  have hB1 : Below w.heap.size w w1 := by
    rw [hw1]
    exact below_setRow ((Below.refl _ _).alloc (Nat.le_refl _) _) (Nat.le_refl _) _
  clear hw1
  have c1 := hA1.cell s.size (by omega)
  have f1 := hA1.free s.size
  obtain ⟨Z1, hZ1⟩ : ∃ Z1, Z1 = over (r ++ [128]) [] := ⟨_, rfl⟩
  have hA2 := hA1.set (i := s.size) (by omega) 128 Z1 (fun j hj => by
    rw [hZ1, over_get _ _ j hj, over_get _ _ j hj, List.length_append, List.length_cons, List.length_nil, getD_snoc, hrl]
    by_cases e : s.size = j
    · rw [if_pos e, if_pos (by omega), if_pos e]
    · rw [if_neg e, if_neg e]
      by_cases e2 : j < s.size
      · rw [if_pos (by omega), if_pos e2]
      · rw [if_neg (by omega), if_neg e2])
  have hZ1s : Small 256 Z1 := hZ1 ▸ over_small (hrs.snoc (by decide)) nil_small
  have hSt := (hS.below hB1).other ⟨w.heap.size, s.size, none⟩ (.int .u8 128) (by show sb ≠ w.heap.size; omega)
  have hBe := (hB1.mono (by omega : base ≤ w.heap.size)).setCell (p := ⟨w.heap.size, s.size, none⟩) (by show base ≤ w.heap.size; omega) (.int .u8 128)
  have HT0 := Lib.hid (take_any Z1 S base sb w.heap.size 138 _ hA2 hSt (by omega) hZ1s hok (hK.below hb0 hBe) hb0 hbase)
  have HA2 := Lib.hid hA2
  have HBe0 := Lib.hid hBe
  rw [← hZ1] at hf
  obtain ⟨SS, hSS⟩ : ∃ SS, SS = S.block Z1 := ⟨_, rfl⟩
  have hSo : SS.ok := hSS ▸ St.block_ok _ _
  obtain ⟨ZZ, hZZ⟩ : ∃ ZZ : List Nat, ZZ = [] := ⟨_, rfl⟩
  have hZs : Small 256 ZZ := hZZ ▸ nil_small
  have hf2 : S.last r m = SS.block (fin ZZ m) := by rw [hf, hSS, hZZ]
  have HFin := Lib.hid hf2
  rw [← hSS] at HT0
  clear hf hf2 hA1 hB1 hA2 hS hok hSS hZ1 hr hrs hrl hSt hBe
  have HZZ := Lib.hid hZZ
  clear hZZ
  have hmI : (sz : Int) * 8 = (m : Int) := by omega
  have hmb : m < 9223372036854775808 := by omega
  clear hm
  have hhi : ¬ (s.size : Int) < 56 := by omega
  have hhi2 : (56 : Int) ≤ (s.size : Int) := by omega
  go_enter Tryz.func93, Tryz.ntmps93
  go_wp2_with fail
  refine HT0.out.mono ?_
  rintro r1 w3 ⟨rfl, hB3, hBut3, hS3⟩
  have hA3 : Arr w3 w.heap.size 138 64 .u8 Z1 := HA2.out.heap (hBut3 _ HA2.out.lt (by omega))
  obtain ⟨w4, hcl, hA4, hsz4, hB4, hk4⟩ := clear_arr w3 w.heap.size Z1 0 hA3
  have hsz3 := hB3.size
  have hs0 : w.heap.size ≤ w3.heap.size := Nat.le_of_lt hA3.lt
  have HSt := Lib.hid (hS3.heap (hk4 sb (by omega)))
  have HBe := Lib.hid ((HBe0.out.trans hB3).trans (hB4 base (by omega)))
  have HZ0 := Lib.hid ((HZZ.out ▸ hA4) : Arr w4 w.heap.size 138 64 .u8 ZZ)
  clear hB3 hBut3 hS3 hA3 hA4 hB4 hk4 hsz3 hs0
  go_wp2_with fail
  go_loopg [23] 8 (fun g iv wr => ∃ i : Nat, i + g = 8 ∧ iv = .int .i64 i ∧ (∃ l, Arr wr w.heap.size 138 64 .u8 l ∧ ∀ j, j < 64 → l.getD j 0 = if 56 ≤ j ∧ j < 56 + i then cb m (j - 56) else ZZ.getD j 0) ∧ Arr wr sb 137 8 .u32 SS.list ∧ Below base w wr)
  case atStart => exact ⟨0, by omega, rfl, ⟨ZZ, HZ0.out, fun j hj => by rw [if_neg (by omega)]⟩, HSt.out, HBe.out⟩
  case round =>
    obtain ⟨i, hig, rfl, ⟨l, hA, hl⟩, hS2, hB⟩ := hrel
    have hi : i = 0 ∨ i = 1 ∨ i = 2 ∨ i = 3 ∨ i = 4 ∨ i = 5 ∨ i = 6 ∨ i = 7 ∨ i = 8 := by omega
    rcases hi with rfl | rfl | rfl | rfl | rfl | rfl | rfl | rfl | rfl
    · have c1 := hA.cell 56 (by omega)
      have f1 := hA.free 56
      have Hn := Lib.hid (fun (v : Nat) l' => hA.set (i := 56) (by omega) v l')
      have Hl := Lib.hid hl
      have HS3 := Lib.hid (fun v => hS2.other ⟨w.heap.size, 56, none⟩ v (by show sb ≠ w.heap.size; omega))
      have HB3 := Lib.hid (fun v => hB.setCell (p := ⟨w.heap.size, 56, none⟩) (by show base ≤ w.heap.size; omega) v)
      clear hA hl hS2 hB
      go_wp2_with fail
      go_roundg (gk - 1)
      case measure => omega
      case rel =>
        refine ⟨0 + 1, by omega, by go_num, ⟨_, ?_, fun j hj => getD_range (fun j => if 56 ≤ j ∧ j < 56 + (0 + 1) then cb m (j - 56) else ZZ.getD j 0) 64 j hj⟩, HS3.out _, HB3.out _⟩
        have e : (m : Int) / 72057594037927936 = ((cb m 0 : Nat) : Int) := by unfold cb; omega
        rw [e]
        refine Hn.out _ _ fun j hj => ?_
        rw [getD_range _ 64 j hj, Hl.out j hj]
        by_cases e1 : 56 = j
        · subst e1; rw [if_pos (by omega), if_pos rfl]
        · rw [if_neg e1]
          by_cases e2 : 56 ≤ j ∧ j < 56 + 0
          · rw [if_pos e2, if_pos (by omega)]
          · rw [if_neg e2, if_neg (by omega)]
    · have c1 := hA.cell 57 (by omega)
      have f1 := hA.free 57
      have Hn := Lib.hid (fun (v : Nat) l' => hA.set (i := 57) (by omega) v l')
      have Hl := Lib.hid hl
      have HS3 := Lib.hid (fun v => hS2.other ⟨w.heap.size, 57, none⟩ v (by show sb ≠ w.heap.size; omega))
      have HB3 := Lib.hid (fun v => hB.setCell (p := ⟨w.heap.size, 57, none⟩) (by show base ≤ w.heap.size; omega) v)
      clear hA hl hS2 hB
      go_wp2_with fail
      go_roundg (gk - 1)
      case measure => omega
      case rel =>
        refine ⟨1 + 1, by omega, by go_num, ⟨_, ?_, fun j hj => getD_range (fun j => if 56 ≤ j ∧ j < 56 + (1 + 1) then cb m (j - 56) else ZZ.getD j 0) 64 j hj⟩, HS3.out _, HB3.out _⟩
        have e : (m : Int) / 281474976710656 % 256 = ((cb m 1 : Nat) : Int) := by unfold cb; omega
        rw [e]
        refine Hn.out _ _ fun j hj => ?_
        rw [getD_range _ 64 j hj, Hl.out j hj]
        by_cases e1 : 57 = j
        · subst e1; rw [if_pos (by omega), if_pos rfl]
        · rw [if_neg e1]
          by_cases e2 : 56 ≤ j ∧ j < 56 + 1
          · rw [if_pos e2, if_pos (by omega)]
          · rw [if_neg e2, if_neg (by omega)]
    · have c1 := hA.cell 58 (by omega)
      have f1 := hA.free 58
      have Hn := Lib.hid (fun (v : Nat) l' => hA.set (i := 58) (by omega) v l')
      have Hl := Lib.hid hl
      have HS3 := Lib.hid (fun v => hS2.other ⟨w.heap.size, 58, none⟩ v (by show sb ≠ w.heap.size; omega))
      have HB3 := Lib.hid (fun v => hB.setCell (p := ⟨w.heap.size, 58, none⟩) (by show base ≤ w.heap.size; omega) v)
      clear hA hl hS2 hB
      go_wp2_with fail
      go_roundg (gk - 1)
      case measure => omega
      case rel =>
        refine ⟨2 + 1, by omega, by go_num, ⟨_, ?_, fun j hj => getD_range (fun j => if 56 ≤ j ∧ j < 56 + (2 + 1) then cb m (j - 56) else ZZ.getD j 0) 64 j hj⟩, HS3.out _, HB3.out _⟩
        have e : (m : Int) / 1099511627776 % 256 = ((cb m 2 : Nat) : Int) := by unfold cb; omega
        rw [e]
        refine Hn.out _ _ fun j hj => ?_
        rw [getD_range _ 64 j hj, Hl.out j hj]
        by_cases e1 : 58 = j
        · subst e1; rw [if_pos (by omega), if_pos rfl]
        · rw [if_neg e1]
          by_cases e2 : 56 ≤ j ∧ j < 56 + 2
          · rw [if_pos e2, if_pos (by omega)]
          · rw [if_neg e2, if_neg (by omega)]
    · have c1 := hA.cell 59 (by omega)
      have f1 := hA.free 59
      have Hn := Lib.hid (fun (v : Nat) l' => hA.set (i := 59) (by omega) v l')
      have Hl := Lib.hid hl
      have HS3 := Lib.hid (fun v => hS2.other ⟨w.heap.size, 59, none⟩ v (by show sb ≠ w.heap.size; omega))
      have HB3 := Lib.hid (fun v => hB.setCell (p := ⟨w.heap.size, 59, none⟩) (by show base ≤ w.heap.size; omega) v)
      clear hA hl hS2 hB
      go_wp2_with fail
      go_roundg (gk - 1)
      case measure => omega
      case rel =>
        refine ⟨3 + 1, by omega, by go_num, ⟨_, ?_, fun j hj => getD_range (fun j => if 56 ≤ j ∧ j < 56 + (3 + 1) then cb m (j - 56) else ZZ.getD j 0) 64 j hj⟩, HS3.out _, HB3.out _⟩
        have e : (m : Int) / 4294967296 % 256 = ((cb m 3 : Nat) : Int) := by unfold cb; omega
        rw [e]
        refine Hn.out _ _ fun j hj => ?_
        rw [getD_range _ 64 j hj, Hl.out j hj]
        by_cases e1 : 59 = j
        · subst e1; rw [if_pos (by omega), if_pos rfl]
        · rw [if_neg e1]
          by_cases e2 : 56 ≤ j ∧ j < 56 + 3
          · rw [if_pos e2, if_pos (by omega)]
          · rw [if_neg e2, if_neg (by omega)]
    · have c1 := hA.cell 60 (by omega)
      have f1 := hA.free 60
      have Hn := Lib.hid (fun (v : Nat) l' => hA.set (i := 60) (by omega) v l')
      have Hl := Lib.hid hl
      have HS3 := Lib.hid (fun v => hS2.other ⟨w.heap.size, 60, none⟩ v (by show sb ≠ w.heap.size; omega))
      have HB3 := Lib.hid (fun v => hB.setCell (p := ⟨w.heap.size, 60, none⟩) (by show base ≤ w.heap.size; omega) v)
      clear hA hl hS2 hB
      go_wp2_with fail
      go_roundg (gk - 1)
      case measure => omega
      case rel =>
        refine ⟨4 + 1, by omega, by go_num, ⟨_, ?_, fun j hj => getD_range (fun j => if 56 ≤ j ∧ j < 56 + (4 + 1) then cb m (j - 56) else ZZ.getD j 0) 64 j hj⟩, HS3.out _, HB3.out _⟩
        have e : (m : Int) / 16777216 % 256 = ((cb m 4 : Nat) : Int) := by unfold cb; omega
        rw [e]
        refine Hn.out _ _ fun j hj => ?_
        rw [getD_range _ 64 j hj, Hl.out j hj]
        by_cases e1 : 60 = j
        · subst e1; rw [if_pos (by omega), if_pos rfl]
        · rw [if_neg e1]
          by_cases e2 : 56 ≤ j ∧ j < 56 + 4
          · rw [if_pos e2, if_pos (by omega)]
          · rw [if_neg e2, if_neg (by omega)]
    · have c1 := hA.cell 61 (by omega)
      have f1 := hA.free 61
      have Hn := Lib.hid (fun (v : Nat) l' => hA.set (i := 61) (by omega) v l')
      have Hl := Lib.hid hl
      have HS3 := Lib.hid (fun v => hS2.other ⟨w.heap.size, 61, none⟩ v (by show sb ≠ w.heap.size; omega))
      have HB3 := Lib.hid (fun v => hB.setCell (p := ⟨w.heap.size, 61, none⟩) (by show base ≤ w.heap.size; omega) v)
      clear hA hl hS2 hB
      go_wp2_with fail
      go_roundg (gk - 1)
      case measure => omega
      case rel =>
        refine ⟨5 + 1, by omega, by go_num, ⟨_, ?_, fun j hj => getD_range (fun j => if 56 ≤ j ∧ j < 56 + (5 + 1) then cb m (j - 56) else ZZ.getD j 0) 64 j hj⟩, HS3.out _, HB3.out _⟩
        have e : (m : Int) / 65536 % 256 = ((cb m 5 : Nat) : Int) := by unfold cb; omega
        rw [e]
        refine Hn.out _ _ fun j hj => ?_
        rw [getD_range _ 64 j hj, Hl.out j hj]
        by_cases e1 : 61 = j
        · subst e1; rw [if_pos (by omega), if_pos rfl]
        · rw [if_neg e1]
          by_cases e2 : 56 ≤ j ∧ j < 56 + 5
          · rw [if_pos e2, if_pos (by omega)]
          · rw [if_neg e2, if_neg (by omega)]
    · have c1 := hA.cell 62 (by omega)
      have f1 := hA.free 62
      have Hn := Lib.hid (fun (v : Nat) l' => hA.set (i := 62) (by omega) v l')
      have Hl := Lib.hid hl
      have HS3 := Lib.hid (fun v => hS2.other ⟨w.heap.size, 62, none⟩ v (by show sb ≠ w.heap.size; omega))
      have HB3 := Lib.hid (fun v => hB.setCell (p := ⟨w.heap.size, 62, none⟩) (by show base ≤ w.heap.size; omega) v)
      clear hA hl hS2 hB
      go_wp2_with fail
      go_roundg (gk - 1)
      case measure => omega
      case rel =>
        refine ⟨6 + 1, by omega, by go_num, ⟨_, ?_, fun j hj => getD_range (fun j => if 56 ≤ j ∧ j < 56 + (6 + 1) then cb m (j - 56) else ZZ.getD j 0) 64 j hj⟩, HS3.out _, HB3.out _⟩
        have e : (m : Int) / 256 % 256 = ((cb m 6 : Nat) : Int) := by unfold cb; omega
        rw [e]
        refine Hn.out _ _ fun j hj => ?_
        rw [getD_range _ 64 j hj, Hl.out j hj]
        by_cases e1 : 62 = j
        · subst e1; rw [if_pos (by omega), if_pos rfl]
        · rw [if_neg e1]
          by_cases e2 : 56 ≤ j ∧ j < 56 + 6
          · rw [if_pos e2, if_pos (by omega)]
          · rw [if_neg e2, if_neg (by omega)]
    · have c1 := hA.cell 63 (by omega)
      have f1 := hA.free 63
      have Hn := Lib.hid (fun (v : Nat) l' => hA.set (i := 63) (by omega) v l')
      have Hl := Lib.hid hl
      have HS3 := Lib.hid (fun v => hS2.other ⟨w.heap.size, 63, none⟩ v (by show sb ≠ w.heap.size; omega))
      have HB3 := Lib.hid (fun v => hB.setCell (p := ⟨w.heap.size, 63, none⟩) (by show base ≤ w.heap.size; omega) v)
      clear hA hl hS2 hB
      go_wp2_with fail
      go_roundg (gk - 1)
      case measure => omega
      case rel =>
        refine ⟨7 + 1, by omega, by go_num, ⟨_, ?_, fun j hj => getD_range (fun j => if 56 ≤ j ∧ j < 56 + (7 + 1) then cb m (j - 56) else ZZ.getD j 0) 64 j hj⟩, HS3.out _, HB3.out _⟩
        have e : (m : Int) % 256 = ((cb m 7 : Nat) : Int) := by unfold cb; omega
        rw [e]
        refine Hn.out _ _ fun j hj => ?_
        rw [getD_range _ 64 j hj, Hl.out j hj]
        by_cases e1 : 63 = j
        · subst e1; rw [if_pos (by omega), if_pos rfl]
        · rw [if_neg e1]
          by_cases e2 : 56 ≤ j ∧ j < 56 + 7
          · rw [if_pos e2, if_pos (by omega)]
          · rw [if_neg e2, if_neg (by omega)]
    · have hA2 : Arr wr w.heap.size 138 64 .u8 (fin ZZ m) := hA.congr fun j hj => by
        rw [hl j hj, fin, getD_range _ 64 j hj]
        by_cases e : j < 56
        · rw [if_pos e, if_neg (by omega)]
        · rw [if_neg e, if_pos (by omega)]
      have HT := Lib.hid (take_any (fin ZZ m) SS base sb w.heap.size 138 wr hA2 hS2 (by omega) (fin_small ZZ m hZs) hSo (hK.below (by omega) hB) hb0 hbase)
      have HBl := Lib.hid hB
      clear hA hA2 hl hS2 hB
      go_wp2_with fail
      refine HT.out.mono ?_
      rintro r2 w9 ⟨rfl, h1, h2, h3⟩
      have H1 := Lib.hid h1
      have H3 := Lib.hid h3
      clear h1 h2 h3
      go_wp2_with fail
      refine bodyPost_end (v := .tuple #[]) (by simp [results, Tryz.results93]) rfl ⟨rfl, HBl.out.trans H1.out, ?_⟩
      rw [HFin.out]
      exact H3.out
end Go.Proofs.YtdhaanaenklleaaGreatDoor.S
namespace Go.Proofs.YtdhaanaenklleaaGreatDoor.S
open Go.RowKit

theorem pw_congr {B B' : List Nat} (h : ∀ j, j < 64 → B.getD j 0 = B'.getD j 0) (i : Nat) (hi : i < 16) : ∀ k, k ≤ 4 → pw B i k = pw B' i k
  | 0, _ => rfl
  | k + 1, hk => by rw [pw, pw, pw_congr h i hi k (by omega), h _ (by omega)]
theorem wordsL_congr {B B' : List Nat} (h : ∀ j, j < 64 → B.getD j 0 = B'.getD j 0) : wordsL B = wordsL B' := by
  have : pre B 16 = pre B' 16 := List.map_congr_left fun i hi => pw_congr h i (by simpa using hi) 4 (Nat.le_refl _)
  rw [wordsL, wordsL, this]
theorem St.block_congr (S : St) {B B' : List Nat} (h : ∀ j, j < 64 → B.getD j 0 = B'.getD j 0) : S.block B = S.block B' := by
  rw [blk_eq, blk_eq, wordsL_congr h]

/-- The block number i of a list. -/
def slab (l : List Nat) (i : Nat) : List Nat := (l.drop (64 * i)).take 64
theorem slab_get (l : List Nat) (i j : Nat) (h : j < 64) : (slab l i).getD j 0 = l.getD (64 * i + j) 0 := by
  simp only [slab, List.getD_eq_getElem?_getD]
  rw [List.getElem?_take_of_lt h, List.getElem?_drop]
def St.run (S : St) (l : List Nat) : Nat → St
  | 0 => S
  | k + 1 => (St.run S l k).block (slab l k)
theorem St.run_succ (S : St) (l : List Nat) (k : Nat) : S.run l (k + 1) = (S.run l k).block (slab l k) := rfl
theorem St.run_ok {S : St} (h : S.ok) (l : List Nat) : ∀ k, (S.run l k).ok
  | 0 => h
  | _ + 1 => St.block_ok _ _
theorem St.run_congr (S : St) {l l' : List Nat} : ∀ k, (∀ j, j < 64 * k → l.getD j 0 = l'.getD j 0) → S.run l k = S.run l' k
  | 0, _ => rfl
  | k + 1, h => by
    rw [St.run_succ, St.run_succ, St.run_congr S k fun j hj => h j (by omega)]
    exact St.block_congr _ fun j hj => by rw [slab_get _ _ _ hj, slab_get _ _ _ hj, h _ (by omega)]
def H0 : St := ⟨1779033703, 3144134277, 1013904242, 2773480762, 1359893119, 2600822924, 528734635, 1541459225⟩
theorem H0_ok : H0.ok := by unfold St.ok H0; decide
/-- The state behind a text. -/
def shaS (l : List Nat) : St := (H0.run l (l.length / 64)).last (l.drop (64 * (l.length / 64))) (l.length * 8)
def shaL (l : List Nat) : List Nat := digL (shaS l).list
theorem shaL_len (l : List Nat) : (shaL l).length = 32 := by rw [shaL, digL, dpre_len]
theorem shaL_small (l : List Nat) : Small 256 (shaL l) := range_small (by decide) fun _ _ => Nat.mod_lt _ (by decide)

/-- How many noughts stand behind a text. -/
def padN (n : Nat) : Nat := (119 - n % 64) % 64
def tailL (n : Nat) : List Nat := (List.range 8).map (cb (n * 8))
def pad (l : List Nat) : List Nat := l ++ [128] ++ List.replicate (padN l.length) 0 ++ tailL l.length
theorem pad_len (l : List Nat) : (pad l).length = l.length + 1 + padN l.length + 8 := by simp [pad, tailL]; omega
theorem getD_app (a b : List Nat) (j : Nat) : (a ++ b).getD j 0 = if j < a.length then a.getD j 0 else b.getD (j - a.length) 0 := by
  simp only [List.getD_eq_getElem?_getD]
  by_cases e : j < a.length
  · rw [if_pos e, List.getElem?_append_left e]
  · rw [if_neg e, List.getElem?_append_right (by omega)]
theorem getD_rep (n j : Nat) : (List.replicate n 0).getD j 0 = 0 := by
  rw [List.getD_eq_getElem?_getD, List.getElem?_replicate]; split <;> rfl
theorem getD_one (v j : Nat) : [v].getD j 0 = if j = 0 then v else 0 := by
  cases j with
  | zero => rfl
  | succ j => simp
theorem getD_out (l : List Nat) (j : Nat) (h : l.length ≤ j) : l.getD j 0 = 0 := by
  rw [List.getD_eq_getElem?_getD, List.getElem?_eq_none h]; rfl
theorem pad_get (l : List Nat) (j : Nat) (h : j < (pad l).length) : (pad l).getD j 0 = if j < l.length then l.getD j 0 else if j = l.length then 128 else if j < l.length + 1 + padN l.length then 0 else cb (l.length * 8) (j - (l.length + 1 + padN l.length)) := by
  rw [pad_len] at h
  have h1 : (l ++ [128]).length = l.length + 1 := by simp
  have h2 : (l ++ [128] ++ List.replicate (padN l.length) 0).length = l.length + 1 + padN l.length := by rw [List.length_append, h1, List.length_replicate]
  rw [pad, getD_app, h2]
  by_cases a : j < l.length + 1 + padN l.length
  · rw [if_pos a, getD_app, h1]
    by_cases b : j < l.length + 1
    · rw [if_pos b, getD_app]
      by_cases c : j < l.length
      · rw [if_pos c, if_pos c]
      · rw [if_neg c, if_neg c, getD_one, if_pos (by omega), if_pos (by omega)]
    · rw [if_neg b, getD_rep, if_neg (by omega), if_neg (by omega), if_pos a]
  · rw [if_neg a, tailL, getD_range _ 8 _ (by omega), if_neg (by omega), if_neg (by omega), if_neg a]
theorem rest_get (l : List Nat) (q j : Nat) : (l.drop (64 * q)).getD j 0 = l.getD (64 * q + j) 0 := by
  simp only [List.getD_eq_getElem?_getD, List.getElem?_drop]

/-- The padded text's blocks lead to the text's state. -/
theorem pad_run (l : List Nat) : H0.run (pad l) ((pad l).length / 64) = shaS l := by
  have hpl := pad_len l
  have hpg := pad_get l
  obtain ⟨n, hn⟩ : ∃ n, l.length = n := ⟨_, rfl⟩
  rw [hn] at hpl hpg
  have hq : 64 * (n / 64) + n % 64 = n := by omega
  have hrl : (l.drop (64 * (n / 64))).length = n % 64 := by rw [List.length_drop, hn]; omega
  have hrun : H0.run (pad l) (n / 64) = H0.run l (n / 64) := St.run_congr _ _ fun j hj => by rw [hpg j (by omega), if_pos (by omega)]
  have hrg := rest_get l (n / 64)
  unfold shaS
  rw [hn]
  obtain ⟨rest, hrest⟩ : ∃ rest, l.drop (64 * (n / 64)) = rest := ⟨_, rfl⟩
  rw [hrest] at hrl hrg ⊢
  have hol : (rest ++ [128]).length = n % 64 + 1 := by simp [hrl]
  by_cases hr : n % 64 < 56
  · have hz : padN n = 55 - n % 64 := by unfold padN; omega
    rw [hz] at hpl hpg
    have e : (pad l).length / 64 = n / 64 + 1 := by omega
    rw [e, St.run_succ, hrun, St.last_lo _ _ _ (by omega)]
    refine St.block_congr _ fun j hj => ?_
    rw [slab_get _ _ _ hj, hpg _ (by omega), fin, getD_range _ 64 j hj]
    by_cases c1 : j < n % 64
    · rw [if_pos (by omega), if_pos (by omega), over_get _ _ _ hj, hol, if_pos (by omega), getD_app, hrl, if_pos c1, hrg]
    · rw [if_neg (by omega)]
      by_cases c2 : j = n % 64
      · rw [if_pos (by omega), if_pos (by omega), over_get _ _ _ hj, hol, if_pos (by omega), getD_app, hrl, if_neg c1, getD_one, if_pos (by omega)]
      · rw [if_neg (by omega)]
        by_cases c3 : j < 56
        · rw [if_pos (by omega), if_pos c3, over_get _ _ _ hj, hol, if_neg (by omega)]; rfl
        · rw [if_neg (by omega), if_neg c3, show 64 * (n / 64) + j - (n + 1 + (55 - n % 64)) = j - 56 by omega]
  · have hz : padN n = 119 - n % 64 := by unfold padN; omega
    rw [hz] at hpl hpg
    have e : (pad l).length / 64 = n / 64 + 1 + 1 := by omega
    rw [e, St.run_succ, St.run_succ, hrun, St.last_hi _ _ _ (by omega)]
    have e1 : (H0.run l (n / 64)).block (slab (pad l) (n / 64)) = (H0.run l (n / 64)).block (over (rest ++ [128]) []) := by
      refine St.block_congr _ fun j hj => ?_
      rw [slab_get _ _ _ hj, hpg _ (by omega), over_get _ _ _ hj, hol]
      by_cases c1 : j < n % 64
      · rw [if_pos (by omega), if_pos (by omega), getD_app, hrl, if_pos c1, hrg]
      · rw [if_neg (by omega)]
        by_cases c2 : j = n % 64
        · rw [if_pos (by omega), if_pos (by omega), getD_app, hrl, if_neg c1, getD_one, if_pos (by omega)]
        · rw [if_neg (by omega), if_pos (by omega), if_neg (by omega)]; rfl
    rw [e1]
    refine St.block_congr _ fun j hj => ?_
    rw [slab_get _ _ _ hj, hpg _ (by omega), fin, getD_range _ 64 j hj, if_neg (by omega), if_neg (by omega)]
    by_cases c3 : j < 56
    · rw [if_pos (by omega), if_pos c3]; rfl
    · rw [if_neg (by omega), if_neg c3, show 64 * (n / 64 + 1) + j - (n + 1 + (119 - n % 64)) = j - 56 by omega]
end Go.Proofs.YtdhaanaenklleaaGreatDoor.S
namespace Go.Proofs.YtdhaanaenklleaaGreatDoor.S
set_option linter.unusedVariables false
open Go.ChangeShapes Go.WideShapes Go.ChangeAt Go.RowKit

theorem end_any (s : ByteArray) (S : St) (base sb sz : Nat) (w : World) (hS : Arr w sb 137 8 .u32 S.list) (hok : S.ok) (hK : KeysAt w) (hb0 : 0 < base) (hbase : base ≤ sb) (hsz : s.size < 64) (hm2 : sz < 1152921504606846976) :
    Calls Tryz.prog 93 #[.pointer (some ⟨sb, 0, none⟩), .string s, .int .i64 sz] w fun e w' => e = .returned (.tuple #[]) ∧ Below base w w' ∧ Arr w' sb 137 8 .u32 (S.last (bytesL s) (sz * 8)).list := by
  by_cases h : s.size < 56
  · exact end_lo s S base sb sz (sz * 8) w hS hok hK hb0 hbase h rfl hm2
  · exact end_hi s S base sb sz (sz * 8) w hS hok hK hb0 hbase (by omega) hsz rfl hm2
theorem list_small {s : St} (h : s.ok) : Small 4294967296 s.list := fun j => by
  obtain ⟨h1, h2, h3, h4, h5, h6, h7, h8⟩ := h
  match j with
  | 0 => exact h1
  | 1 => exact h2
  | 2 => exact h3
  | 3 => exact h4
  | 4 => exact h5
  | 5 => exact h6
  | 6 => exact h7
  | 7 => exact h8
  | j + 8 => show 0 < 4294967296; decide
theorem St.last_ok (S : St) (r : List Nat) (m : Nat) : (S.last r m).ok := by
  unfold St.last; split <;> exact St.block_ok _ _
theorem shaS_ok (l : List Nat) : (shaS l).ok := St.last_ok _ _ _
theorem bytesL_cut (t : ByteArray) (k : Nat) : bytesL (t.extract k t.size) = (bytesL t).drop k := by
  rw [bytesL, bytesL, Lib.extract_to_end, List.map_drop]

theorem shaL_eq (L : List Nat) : shaL L = digL (shaS L).list := rfl
theorem shaS_eq (L : List Nat) : shaS L = (H0.run L (L.length / 64)).last (L.drop (64 * (L.length / 64))) (L.length * 8) := rfl
theorem of_start (w : World) (z24 c41 z42 : Array Value) (l : List Nat) (h24 : z24 = Array.replicate 32 (.int .u8 0)) (h41 : c41 = ints .u32 l) (hl : l.length = 8) (h42 : z42 = Array.replicate 64 (.int .u8 0)) :
    Arr (((w.alloc (.cells z24 32)).alloc (.cells c41 137)).alloc (.cells z42 138)) w.heap.size 32 32 .u8 [] ∧ Arr (((w.alloc (.cells z24 32)).alloc (.cells c41 137)).alloc (.cells z42 138)) (w.heap.size + 1) 137 8 .u32 l ∧ Arr (((w.alloc (.cells z24 32)).alloc (.cells c41 137)).alloc (.cells z42 138)) (w.heap.size + 1 + 1) 138 64 .u8 [] ∧ Below w.heap.size w (((w.alloc (.cells z24 32)).alloc (.cells c41 137)).alloc (.cells z42 138)) := by
  obtain ⟨w1, e1⟩ : ∃ w1, w1 = w.alloc (.cells z24 32) := ⟨_, rfl⟩
  obtain ⟨w2, e2⟩ : ∃ w2, w2 = w1.alloc (.cells c41 137) := ⟨_, rfl⟩
  obtain ⟨w3, e3⟩ : ∃ w3, w3 = w2.alloc (.cells z42 138) := ⟨_, rfl⟩
  rw [← e1, ← e2, ← e3]
  have s1 : w1.heap.size = w.heap.size + 1 := by rw [e1]; simp
  have s2 : w2.heap.size = w.heap.size + 1 + 1 := by rw [e2]; simp [s1]
  have b1 : Below w.heap.size w w1 := e1 ▸ (Below.refl _ _).alloc (Nat.le_refl _) _
  have b2 : Below w1.heap.size w1 w2 := e2 ▸ (Below.refl _ _).alloc (Nat.le_refl _) _
  have b3 : Below w2.heap.size w2 w3 := e3 ▸ (Below.refl _ _).alloc (Nat.le_refl _) _
  have a1 : Arr w1 w.heap.size 32 32 .u8 [] := e1 ▸ arr_zero (heap_alloc_new w _) h24
  have a2 : Arr w2 w1.heap.size 137 8 .u32 l := e2 ▸ arr_ints (h41 ▸ heap_alloc_new w1 _) hl
  have a3 : Arr w3 w2.heap.size 138 64 .u8 [] := e3 ▸ arr_zero (heap_alloc_new w2 _) h42
  exact ⟨(a1.below b2).below b3, s1 ▸ a2.below b3, s2 ▸ a3, (b1.trans (b2.mono (by omega))).trans (b3.mono (by omega))⟩

set_option maxRecDepth 100000 in
set_option maxHeartbeats 1000000 in
theorem of_any (s : ByteArray) (w : World) (hK : KeysAt w) (hs : s.size ≤ 140737488355328) :
    Calls Tryz.prog 66 #[.string s] w fun e w' => e = .returned (.agg (ints .u8 (shaL (bytesL s)))) ∧ Below w.heap.size w w' := by
  have hw0 := hK.1
  have Hlen := Lib.hid (bytesL_len s)
  have HK := Lib.hid hK
  clear hK
  obtain ⟨L, hL⟩ : ∃ L, L = bytesL s := ⟨_, rfl⟩
  rw [← hL] at Hlen ⊢
  have HL := Lib.hid hL
  clear hL
  have Hsha := Lib.hid (shaL_eq L)
  have HshaS := Lib.hid (shaS_eq L)
  have Hok := Lib.hid (shaS_ok L)
  go_enter Tryz.func66, Tryz.ntmps66
  go_wp2_with fail
  have HST := Lib.hid (fun z24 c41 z42 h1 h2 h3 => of_start w z24 c41 z42 H0.list h1 h2 rfl h3)
  go_loopg [5] (s.size / 64) (fun g rv wr => ∃ (i : Nat) (t : ByteArray) (l : List Nat), i + g = s.size / 64 ∧ rv = .string t ∧ bytesL t = L.drop (64 * i) ∧ t.size + 64 * i = s.size ∧ Arr wr w.heap.size 32 32 .u8 [] ∧ Arr wr (w.heap.size + 1) 137 8 .u32 (H0.run L i).list ∧ Arr wr (w.heap.size + 1 + 1) 138 64 .u8 l ∧ Small 256 l ∧ Below w.heap.size w wr)
  case atStart =>
    have h := HST.out _ _ _ rfl rfl rfl
    exact ⟨0, s, [], by omega, rfl, by rw [HL.out]; rfl, by omega, h.1, h.2.1, h.2.2.1, nil_small, h.2.2.2⟩
  case round =>
    clear HST
    obtain ⟨i, t, l, hig, rfl, htL, hts, hR, hS, hA, hls, hB⟩ := hrel
    by_cases hlt : 64 ≤ t.size
    · have hltI : (64 : Int) ≤ (t.size : Int) := by omega
      have hnl : ¬ (t.size : Int) < 64 := by omega
      have hsl := slice42all wr (w.heap.size + 1 + 1)
      obtain ⟨w1, hw1⟩ : ∃ w1, w1 = wr.setRow (w.heap.size + 1 + 1) (ints .u8 (over ((bytesL t).take 64) l)) := ⟨_, rfl⟩
      have hcp : ∀ ty, (Builtin.copy_ #[56, 9] ty #[.slice (some ⟨w.heap.size + 1 + 1, 0, none⟩) 64 64, .string t]).run Tryz.prog wr = .ok (.int .i64 64) w1 := fun ty => by
        have h := copy_arr wr (w.heap.size + 1 + 1) l t ty hA
        rw [Nat.min_eq_right (by omega), ← hw1] at h
        exact h
      have hA1 : Arr w1 (w.heap.size + 1 + 1) 138 64 .u8 (over ((bytesL t).take 64) l) := by
        rw [hw1]
        obtain ⟨cur, h1, h2, h3⟩ := hA
        exact arr_ints (setRow_heap _ _ _ _ _ _ h1) (over_len _ _)
      have hsz1 : w1.heap.size = wr.heap.size := by rw [hw1]; simp [World.setRow]
      have hb1 : Below w.heap.size w w1 := by rw [hw1]; exact below_setRow hB (by omega) _
      have hk1 : ∀ j, j ≠ w.heap.size + 1 + 1 → w1.heap[j]? = wr.heap[j]? := fun j hj => by rw [hw1]; exact setRow_other wr _ j _ (by omega)
      have hblk : (H0.run L i).block (over ((bytesL t).take 64) l) = H0.run L (i + 1) := by
        rw [St.run_succ]
        refine St.block_congr _ fun j hj => ?_
        have hl64 : ((bytesL t).take 64).length = 64 := by rw [List.length_take, bytesL_len]; omega
        rw [over_get _ _ _ hj, if_pos (by omega), slab, htL]
      have hS1 := hS.heap (hk1 _ (by omega))
      have hR1 := hR.heap (hk1 _ (by omega))
      have hK1 := HK.out.below hw0 hb1
      have hsm : Small 256 (over ((bytesL t).take 64) l) := over_small (fun j => by
        by_cases hj : j < 64
        · rw [List.getD_eq_getElem?_getD, List.getElem?_take_of_lt hj, ← List.getD_eq_getElem?_getD]; exact bytesL_small t j
        · rw [getD_out _ _ (by rw [List.length_take]; omega)]; decide) hls
      have Hsm := Lib.hid hsm
      have HT := Lib.hid (take_any _ (H0.run L i) (w.heap.size + 1) (w.heap.size + 1) (w.heap.size + 1 + 1) 138 w1 hA1 hS1 (by omega) hsm (St.run_ok H0_ok _ _) hK1 (by omega) (Nat.le_refl _))
      rw [hblk] at HT
      have Hcut := Lib.hid (show bytesL (t.extract 64 t.size) = L.drop (64 * (i + 1)) by rw [bytesL_cut, htL, List.drop_drop, show 64 * i + 64 = 64 * (i + 1) by omega])
      have Hcz := Lib.hid (show (t.extract 64 t.size).size + 64 * (i + 1) = s.size by rw [← bytesL_len, bytesL_cut, List.length_drop, bytesL_len]; omega)
      have HR1 := Lib.hid hR1
      have Hb1 := Lib.hid hb1
      have HA1 := Lib.hid hA1
      clear hsm hls hA1 hR1 hS1 hb1 hK1 hblk hk1 hS hR hA hB htL hw1
      go_wp2_with fail
      refine HT.out.mono ?_
      rintro e w2 ⟨rfl, hB2, hBut2, hS2⟩
      have hR2 := HR1.out.heap (hBut2 _ HR1.out.lt (by omega))
      have hA2 := HA1.out.heap (hBut2 _ HA1.out.lt (by omega))
      have hb2 : Below w.heap.size w w2 := Hb1.out.trans (hB2.mono (by omega))
      have HB2 := Lib.hid hb2
      have HR2 := Lib.hid hR2
      have HA2 := Lib.hid hA2
      have HS2 := Lib.hid hS2
      clear hb2 hR2 hA2 hS2 hB2 hBut2
      go_wp2_with fail
      go_roundg (gk - 1)
      case measure => omega
      case rel => exact ⟨i + 1, _, _, by omega, rfl, Hcut.out, Hcz.out, HR2.out, HS2.out, HA2.out, Hsm.out, HB2.out⟩
    · have hnl : ¬ (64 : Int) ≤ (t.size : Int) := by omega
      have hltI : (t.size : Int) < 64 := by omega
      have hiq : i = s.size / 64 := by omega
      have HE := Lib.hid (end_any t (H0.run L i) (w.heap.size + 1) (w.heap.size + 1) s.size wr hS (St.run_ok H0_ok _ _) (HK.out.below hw0 hB) (by omega) (Nat.le_refl _) (by omega) (by omega))
      have HF := Lib.hid (show shaS L = (H0.run L i).last (bytesL t) (s.size * 8) by rw [HshaS.out, htL, hiq, Hlen.out])
      rw [← HF.out] at HE
      have HR := Lib.hid hR
      have HB := Lib.hid hB
      clear HF hiq hR hS hA hls hB htL
      go_wp2_with fail
      refine HE.out.mono ?_
      rintro e w2 ⟨rfl, hB2, hS2⟩
      have hwh := Lib.hid (hS2.whole (list_len _))
      have HR2 := Lib.hid (HR.out.heap (hB2.block _ (by omega)))
      have HB2 := Lib.hid (HB.out.trans (hB2.mono (by omega)))
      have HD := Lib.hid (fun w3 => digest_any (shaS L).list w3 (list_len _) (list_small Hok.out))
      rw [← Hsha.out] at HD
      have Hz := Lib.hid (show (Tryz.prog.info? 137).map (·.size) = some (ints .u32 (shaS L).list).size by rw [ints_size, list_len]; kernel_rfl)
      have Hz24 := Lib.hid (show (Tryz.prog.info? 32).map (·.size) = some (ints .u8 (shaL L)).size by rw [ints_size, shaL_len]; kernel_rfl)
      have HDl := Lib.hid (shaL_len L)
      clear hB2 hS2 Hsha
      obtain ⟨D, hDe⟩ : ∃ D, D = shaL L := ⟨_, rfl⟩
      rw [← hDe] at HD Hz24 HDl
      have HDe := Lib.hid hDe
      clear hDe
      generalize (shaS L).list = X at *
      go_wp2_with (refine wpList_load_row rfl 137 _ rfl (w.heap.size + 1) rfl 137 (ints .u32 X) (0, 0) _ hwh.out Tryz.underlying137 rfl Hz.out ?_)
      refine (HD.out _).mono ?_
      rintro e w3 ⟨rfl, hB3⟩
      obtain ⟨old, ho1, ho2, _⟩ := HR2.out.below hB3
      have Ho1 := Lib.hid ho1
      have Ho3 := Lib.hid (show old.size = (ints .u8 D).size by rw [ints_size, HDl.out, ho2])
      have HB3 := Lib.hid (HB2.out.trans (hB3.mono HB2.out.size))
      clear hB3 ho1 ho2
      go_wp2_with (refine wpList_store_rowTo rfl 32 _ _ rfl rfl w.heap.size (ints .u8 D) rfl rfl 32 _ Ho1.out Hz24.out Ho3.out (ints_one _ _) ?_)
      refine bodyPost_ret (v := .agg (ints .u8 D)) (results_cell_row (fr := (0, 0)) rfl _ _ w.heap.size 32 _ _ rfl (setRow_heap _ _ _ _ _ _ Ho1.out) Tryz.underlying32 rfl Hz24.out) rfl ⟨by rw [HDe.out], below_setRow HB3.out (Nat.le_refl _) _⟩
end Go.Proofs.YtdhaanaenklleaaGreatDoor.S
namespace Go.Proofs.YtdhaanaenklleaaGreatDoor.S
set_option linter.unusedVariables false
open Go.ChangeShapes Go.WideShapes Go.ChangeAt Go.RowKit

theorem Tryz.info5 : (Tryz.prog.info? 5).map (fun i => (i.zero, i.size, i.bytes)) = some (some (.int .u8 0), 1, 1) := by kernel_rfl
theorem add_none (b off i : Nat) : (⟨b, off, none⟩ : Addr).add i = ⟨b, off + i, none⟩ := by unfold Addr.add; split <;> simp_all
def cellsN (l : List Nat) : List Value := l.map fun (n : Nat) => Value.int .u8 (n : Int)
theorem cellsN_append (a b : List Nat) : cellsN (a ++ b) = cellsN a ++ cellsN b := by simp [cellsN]
theorem cellsN_len (a : List Nat) : (cellsN a).length = a.length := by simp [cellsN]
theorem cellsN_get (l : List Nat) (j : Nat) (h : j < l.length) : (cellsN l)[j]? = some (.int .u8 ((l.getD j 0 : Nat) : Int)) := by
  simp [cellsN, List.getElem?_map, List.getElem?_eq_getElem h, List.getD_eq_getElem?_getD]

/-- Bytes that are handed on: none at all, or a row of cells. -/
def BytsN (w : World) (v : Value) (l : List Nat) : Prop :=
  (v = .slice none 0 0 ∧ l = []) ∨ (∃ x cap, v = .slice (some x) 0 cap ∧ l = []) ∨
  ∃ b off cap, v = .slice (some ⟨b, off, none⟩) l.length cap ∧ l.length ≤ cap ∧ cap ≤ maxLen ∧ b < w.heap.size ∧ ∀ i, i < l.length → w.cell? ⟨b, off + i, none⟩ = some (.int .u8 ((l.getD i 0 : Nat) : Int))
theorem BytsN.below {w w' : World} {v : Value} {l : List Nat} (h : BytsN w v l) (hB : Below w.heap.size w w') : BytsN w' v l := by
  rcases h with h | h | ⟨b, off, cap, hv, hl, hc, hb, hcell⟩
  · exact .inl h
  · exact .inr (.inl h)
  · refine .inr (.inr ?_)
    exact ⟨b, off, cap, hv, hl, hc, Nat.lt_of_lt_of_le hb hB.size, fun i hi => by rw [hB.cell (p := ⟨b, off + i, none⟩) hb]; exact hcell i hi⟩
theorem BytsN.ofRow {w : World} {base : Nat} {v : Value} {l : List Nat} (h : w.ownsRow base 5 1 v l.length (cellsN l)) : BytsN w v l := by
  rcases h.2 with ⟨hv, hn⟩ | ⟨g, cap, cur, hv, _, hg, hcap, hmax, hsz, htake⟩
  · exact .inl ⟨hv, List.eq_nil_of_length_eq_zero hn⟩
  · refine .inr (.inr ⟨g, 0, cap, hv, hcap, hmax, lt_of_block hg, fun i hi => ?_⟩)
    rw [block_cell hg]
    have e : (cur.toList.take (l.length * 1))[i]? = (cellsN l)[i]? := by rw [htake]
    rw [List.getElem?_take_of_lt (by omega), cellsN_get _ _ hi] at e
    simpa using e
theorem BytsN.shape {w : World} {v : Value} {l : List Nat} (h : BytsN w v l) : ∃ p cap, v = .slice p l.length cap := by
  rcases h with ⟨rfl, rfl⟩ | ⟨x, cap, rfl, rfl⟩ | ⟨b, off, cap, hv, _⟩
  · exact ⟨none, 0, rfl⟩
  · exact ⟨some x, cap, rfl⟩
  · exact ⟨_, cap, hv⟩

theorem wpList_append_byts {w : World} {ops : Array Oper} {rest : List Oper} {o : Oper} {a : Act} {Q : Exit → Act → World → Prop} (hgd : o.guard = none) (s x : Operand)
    (ho : o.op = .call { callee := .builtin .append, args := #[s, x], argTypes := #[56, 56] }) (base : Nat) (v : Value) (n : Nat) (xs : List Value) (hs : a.eval s = v) (hown : w.ownsRow base 5 1 v n xs)
    (u : Value) (l : List Nat) (hu : BytsN w u l) (hx : a.eval x = u) (hb : n + l.length ≤ 140737488355328) (hbase : base ≤ w.heap.size)
    (h : ∀ v' w', w'.ownsRow base 5 1 v' (n + l.length) (xs ++ cellsN l) → w.grownBy w' v.ownBlock → wpList Tryz.prog ops Q rest (a.put o.dst v') w') : wpList Tryz.prog ops Q (o :: rest) a w := by
  obtain ⟨i0, hi, hz0, hz1, hz2⟩ := info_parts Tryz.info5
  rcases hu with ⟨rfl, rfl⟩ | ⟨ad, cap, rfl, rfl⟩ | ⟨b, off, cap, rfl, hcap, hmax, hb2, hcell⟩
  · exact wpList_append_own_none hgd s x 56 ho base 5 i0 1 Tryz.underlying56 hi v n xs hs hown hx (h v w (by simpa [cellsN] using hown) ⟨rfl, rfl, rfl, Nat.le_refl _, fun _ _ _ => rfl⟩)
  · exact wpList_append_own w hgd s x 56 ho base 5 i0 (.int .u8 0) 1 1 Tryz.underlying56 hi hz0 hz1 hz2 rfl (by decide) v n xs hs hown ad 0 cap [] hx rfl (fun j u h => by simp at h) (fun u h => by simp at h) (by unfold maxLen; simp at hb; omega) (by simp at hb; omega) hbase (fun v' w' h1 h2 _ => h v' w' (by simpa [cellsN] using h1) h2)
  · refine wpList_append_own w hgd s x 56 ho base 5 i0 (.int .u8 0) 1 1 Tryz.underlying56 hi hz0 hz1 hz2 rfl (by decide) v n xs hs hown ⟨b, off, none⟩ l.length cap (cellsN l) hx (by rw [cellsN_len]; omega) ?_ ?_ (by unfold maxLen; omega) (by omega) hbase (fun v' w' h1 h2 _ => h v' w' h1 h2)
    · intro j y hj
      have hjl : j < l.length := by have := (List.getElem?_eq_some_iff.1 hj).1; rwa [cellsN_len] at this
      rw [add_none, hcell j hjl]
      rw [cellsN_get _ _ hjl] at hj
      exact hj
    · intro y hy
      simp [cellsN] at hy
      obtain ⟨b, _, rfl⟩ := hy
      rfl

theorem byts_one (w : World) (x : Nat) : BytsN (w.alloc (.cells #[.int .u8 (x : Int)] 5)) (.slice (some ⟨w.heap.size, 0, none⟩) 1 1) [x] :=
  .inr (.inr ⟨w.heap.size, 0, 1, rfl, by simp, by unfold maxLen; decide, by simp, fun i hi => by
    obtain rfl : i = 0 := by simpa using hi
    rw [World.cell?_alloc_at _ _ _ _ rfl]; rfl⟩)
theorem own_one (w : World) (base x : Nat) (hb : base ≤ w.heap.size) : (w.alloc (.cells #[.int .u8 (x : Int)] 5)).ownsRow base 5 1 (.slice (some ⟨w.heap.size, 0, none⟩) 1 1) 1 (cellsN [x]) :=
  World.ownsRow_lit w #[.int .u8 (x : Int)] 1 hb (by unfold maxLen; decide) rfl
theorem own_val (w : World) (base : Nat) (z : Int) (x : Nat) (hz : z = (x : Int)) (hb : base ≤ w.heap.size) : (w.alloc (.cells #[.int .u8 z] 5)).ownsRow base 5 1 (.slice (some ⟨w.heap.size, 0, none⟩) 1 1) 1 (cellsN [x]) := by
  subst hz; exact own_one w base x hb
theorem own_none (w : World) : (w.alloc (.cells #[] 5)).ownsRow w.heap.size 5 1 (.slice (some ⟨w.heap.size, 0, none⟩) 0 0) 0 [] :=
  World.ownsRow_lit w #[] 0 (Nat.le_refl _) (by unfold maxLen; decide) rfl
def padP (l : List Nat) (k : Nat) : List Nat := l ++ [128] ++ List.replicate k 0
theorem padP_len (l : List Nat) (k : Nat) : (padP l k).length = l.length + 1 + k := by simp [padP]; omega
theorem padP_succ (l : List Nat) (k : Nat) : padP l (k + 1) = padP l k ++ [0] := by rw [padP, List.replicate_succ', ← List.append_assoc]; rfl
def OwnB (base : Nat) (w : World) (v : Value) (l : List Nat) : Prop := w.ownsRow base 5 1 v l.length (cellsN l)
theorem OwnB.byts {base : Nat} {w : World} {v : Value} {l : List Nat} (h : OwnB base w v l) : BytsN w v l := BytsN.ofRow h
theorem own_add {base : Nat} {w : World} {v : Value} {l r : List Nat} {n : Nat} (hn : n = l.length) (h : w.ownsRow base 5 1 v (n + r.length) (cellsN l ++ cellsN r)) : OwnB base w v (l ++ r) := by
  subst hn
  unfold OwnB
  rw [List.length_append, cellsN_append]; exact h
def tailP (n i : Nat) : List Nat := (List.range i).map fun j => cb (n * 8) (8 - i + j)
theorem tailP_len (n i : Nat) : (tailP n i).length = i := by simp [tailP]
theorem tailP_eight (n : Nat) : tailP n 8 = tailL n := by simp [tailP, tailL]
theorem tailP_succ (n i : Nat) (h : i < 8) : tailP n (i + 1) = [cb (n * 8) (7 - i)] ++ tailP n i := by
  rw [tailP, List.range_succ_eq_map, List.map_cons, List.map_map, tailP, List.singleton_append, show 8 - (i + 1) + 0 = 7 - i by omega]
  congr 1
  refine List.map_congr_left fun j _ => ?_
  show cb (n * 8) (8 - (i + 1) + (j + 1)) = _
  rw [show 8 - (i + 1) + (j + 1) = 8 - i + j by omega]
theorem cb_at (m i : Nat) (h : i < 8) : cb m (7 - i) = m / 256 ^ i % 256 := by
  unfold cb
  rw [show (256 : Nat) = 2 ^ 8 from rfl, ← Nat.pow_mul, show 56 - 8 * (7 - i) = 8 * i by omega]
theorem pad_eq (l : List Nat) : pad l = padP l (padN l.length) ++ tailL l.length := rfl
theorem OwnB.below {base : Nat} {w w' : World} {v : Value} {l : List Nat} (h : OwnB base w v l) (hB : Below w.heap.size w w') : OwnB base w' v l := by
  unfold OwnB at *
  rcases h with ⟨h1, h2⟩
  refine ⟨h1, ?_⟩
  rcases h2 with h2 | ⟨g, cap, cur, a, b, hg, c⟩
  · exact .inl h2
  · exact .inr ⟨g, cap, cur, a, b, by rw [hB.block g (lt_of_block hg)]; exact hg, c⟩

set_option maxRecDepth 100000 in
set_option maxHeartbeats 1000000 in
theorem padded_any (v : Value) (l : List Nat) (w : World) (hv : BytsN w v l) (hl : l.length ≤ 70368744177664) :
    Calls Tryz.prog 99 #[v] w fun e w' => ∃ v', e = .returned v' ∧ OwnB w.heap.size w' v' (pad l) ∧ Below w.heap.size w w' := by
  obtain ⟨p, cap, rfl⟩ := hv.shape
  have Hv := Lib.hid (fun w1 (hB : Below w.heap.size w w1) => hv.below hB)
  have hB0 : ∀ o, Below w.heap.size w (w.alloc o) := fun o => (Below.refl _ _).alloc (Nat.le_refl _) o
  have HB0 := Lib.hid hB0
  clear hv hB0
  go_enter Tryz.func99, Tryz.ntmps99
  go_wp2_with (first
    | (at_builtin; refine wpList_append_byts rfl (.tmp 7) (.tmp 8) rfl w.heap.size _ 0 [] rfl (own_none w) _ l (Hv.out _ (HB0.out _)) rfl (by omega) (by simp) ?_; intro v1 w1 hown1 hgrow1; have hB1 : Below w.heap.size w w1 := (HB0.out _).grown hgrow1 (by simp) (fun k hk => ((own_none w).lt k hk).1); rw [Nat.zero_add, List.nil_append] at hown1)
    | (at_builtin; refine wpList_append_byts rfl (.tmp 9) (.tmp 10) rfl w.heap.size _ l.length (cellsN l) rfl (hown1.alloc _) _ [128] (byts_one w1 128) rfl (by simp; omega) (by have := hB1.size; simp; omega) ?_; intro v2 w2 hown2 hgrow2; have hB2 : Below w.heap.size w w2 := (hB1.alloc hB1.size _).grown hgrow2 (by have := hB1.size; simp; omega) (fun k hk => (hown1.lt k hk).1); have HO2 := Lib.hid (own_add rfl hown2); clear hown1 hown2 hgrow1 hgrow2 hB1))
  have Hpad := Lib.hid (show padN l.length < 64 by unfold padN; omega)
  go_loopg [3] (padN l.length) (fun g ov wr => ∃ k : Nat, k + g = padN l.length ∧ OwnB w.heap.size wr ov (padP l k) ∧ Below w.heap.size w wr)
  case atStart => exact ⟨0, by omega, by simpa [padP] using HO2.out, hB2⟩
  case round =>
    obtain ⟨k, hkg, hown, hB⟩ := hrel
    clear HO2 hB2
    have h2 := hown
    unfold OwnB at h2
    rw [padP_len] at h2
    obtain ⟨g, cap2, rfl, hgb, hgl⟩ := h2.form (by omega)
    have hkn : k < 64 := by have := Hpad.out; omega
    have HO := Lib.hid hown
    clear hown h2
    by_cases hlt : k < padN l.length
    · have hne : (((l.length + 1 + k : Nat) : Int) % 64 != 56) = true := by
        rw [bne_iff_ne]; unfold padN at hlt; omega
      go_wp2_with (at_builtin; go_must (refine wpList_append_byts rfl (.tmp 16) (.tmp 17) rfl w.heap.size _ (l.length + 1 + k) (cellsN (padP l k)) rfl (by have h := HO.out; unfold OwnB at h; rw [padP_len] at h; exact h.alloc _) _ [0] (byts_one wr 0) rfl (by simp; omega) (by have := hB.size; simp; omega) ?_); intro v3 w3 hown3 hgrow3; have hB3 : Below w.heap.size w w3 := (hB.alloc hB.size _).grown hgrow3 (by have := hB.size; simp; omega) (fun k' hk' => by have h := HO.out; unfold OwnB at h; exact (h.lt k' hk').1); have HO3 := Lib.hid (own_add (padP_len l k).symm hown3); clear hown3 hgrow3 hB)
      go_roundg (gk - 1)
      case measure => omega
      case rel => exact ⟨k + 1, by omega, by rw [padP_succ]; exact HO3.out, hB3⟩
    · obtain rfl : k = padN l.length := by omega
      have hne : (((l.length : Int) + 1 + (padN l.length : Int)) % 64 != 56) = false := by
        rw [bne_eq_false_iff_eq]; unfold padN; omega
      go_wp2_with fail
      have Hne := Lib.hid hne
      clear hne
      obtain ⟨wo, hwo⟩ : ∃ wo, wo = wr := ⟨_, rfl⟩
      rw [← hwo] at HO hB ⊢
      clear hwo
      have HBo := Lib.hid hB
      have hBz := hB.size
      clear hB
      generalize hnn : l.length = n at *
      have Hnn := Lib.hid hnn
      clear hnn
      go_loopg [4, 5, 6] 8 (fun g nv tv iv wr => ∃ i x : Nat, i + g = 8 ∧ iv = .int .i64 i ∧ nv = .int .i64 x ∧ (i = 0 → x = n) ∧ (0 < i → x = n * 8 / 256 ^ i) ∧ BytsN wr tv (tailP n i) ∧ Below wo.heap.size wo wr)
      case atStart => exact ⟨0, n, by omega, rfl, rfl, fun _ => rfl, fun h => by omega, .inl ⟨rfl, rfl⟩, Below.refl _ _⟩
      case round =>
        obtain ⟨i, x, hig, rfl, rfl, hx0, hx1, ht, hB⟩ := hrel
        have hBs := hB.size
        obtain ⟨p3, cap3, rfl⟩ := ht.shape
        rw [tailP_len] at ht ⊢
        have HT := Lib.hid (fun w1 (h1 : Below wr.heap.size wr w1) => ht.below h1)
        clear ht
        by_cases hlt : i < 8
        · have hltI : (i : Int) < 8 := by omega
          have hts := tailP_succ n i hlt
          rw [cb_at _ _ hlt] at hts
          by_cases h0 : i = 0
          · subst h0
            obtain rfl : n = x := (hx0 rfl).symm
            obtain ⟨y, hy⟩ : ∃ y, y = n * 8 / 256 ^ 0 % 256 := ⟨_, rfl⟩
            rw [← hy] at hts
            have HY := Lib.hid (show (n : Int) % 32 * 8 = (y : Int) by rw [hy, Nat.pow_zero]; omega)
            have Hts := Lib.hid hts.symm
            clear hts hx0 hx1 hy
            go_wp2_with (at_builtin; go_must (refine wpList_append_byts rfl (.tmp 31) (.tmp 32) rfl wo.heap.size _ 1 (cellsN [y]) rfl (own_val wr _ _ y HY.out hBs) _ (tailP n 0) (HT.out _ ((Below.refl _ _).alloc (Nat.le_refl _) _)) rfl (by rw [tailP_len]; omega) (by simp; omega) ?_); intro v3 w3 hown3 hgrow3; have hB3 : Below wo.heap.size wo w3 := (hB.alloc hBs _).grown hgrow3 (by simp; omega) (fun k' hk' => ((own_val wr _ _ y HY.out hBs).lt k' hk').1); have HO3 := Lib.hid (own_add rfl hown3); clear hown3 hgrow3 hB)
            rw [Hts.out] at HO3
            go_roundg (gk - 1)
            case measure => omega
            case rel => exact ⟨0 + 1, n / 32, by omega, by go_num, by go_num, fun h => by omega, fun _ => by omega, HO3.out.byts, hB3⟩
          · obtain ⟨y, hy⟩ : ∃ y, y = n * 8 / 256 ^ i % 256 := ⟨_, rfl⟩
            have hxv := hx1 (by omega)
            have hx2 : x / 256 = n * 8 / 256 ^ (i + 1) := by rw [hxv, Nat.div_div_eq_div_mul, Nat.pow_succ]
            have hn8 : n * 8 / 256 ^ i ≤ n * 8 := Nat.div_le_self _ _
            have hxb : x ≤ 562949953421312 := by omega
            rw [← hy] at hts
            have HY := Lib.hid (show (x : Int) % 256 = (y : Int) by rw [hy, ← hxv]; omega)
            have Hts := Lib.hid hts.symm
            have Hx2 := Lib.hid hx2
            have h0I : ((i : Int) == 0) = false := by rw [beq_eq_false_iff_ne]; omega
            clear hts hx0 hx1 hy hxv hx2 hn8
            go_wp2_with (at_builtin; go_must (refine wpList_append_byts rfl (.tmp 39) (.tmp 40) rfl wo.heap.size _ 1 (cellsN [y]) rfl (own_val wr _ _ y HY.out hBs) _ (tailP n i) (HT.out _ ((Below.refl _ _).alloc (Nat.le_refl _) _)) rfl (by rw [tailP_len]; omega) (by simp; omega) ?_); intro v3 w3 hown3 hgrow3; have hB3 : Below wo.heap.size wo w3 := (hB.alloc hBs _).grown hgrow3 (by simp; omega) (fun k' hk' => ((own_val wr _ _ y HY.out hBs).lt k' hk').1); have HO3 := Lib.hid (own_add rfl hown3); clear hown3 hgrow3 hB)
            rw [Hts.out] at HO3
            go_roundg (gk - 1)
            case measure => omega
            case rel => exact ⟨i + 1, x / 256, by omega, by go_num, by go_num, fun h => by omega, fun _ => Hx2.out, HO3.out.byts, hB3⟩
        · obtain rfl : i = 8 := by omega
          have hnl : ¬ ((8 : Nat) : Int) < 8 := by omega
          clear hx0 hx1
          have HO4 := Lib.hid (HO.out.below hB)
          have hcl := tailP_len n 8
          have HO5 := Lib.hid (show wr.ownsRow w.heap.size 5 1 (.slice (some ⟨g, 0, none⟩) (n + 1 + padN n) cap2) (n + 1 + padN n) (cellsN (padP l (padN n))) by have h := HO4.out; unfold OwnB at h; rw [padP_len, Hnn.out] at h; exact h)
          have HPe := Lib.hid (show pad l = padP l (padN n) ++ tailP n 8 by rw [pad_eq, Hnn.out, tailP_eight])
          have HPl := Lib.hid (show n + 1 + padN n = (padP l (padN n)).length by rw [padP_len, Hnn.out])
          have hpn := Hpad.out
          have HB := Lib.hid hB
          clear hB hcl
          go_wp2_with (at_builtin; go_must (refine wpList_append_byts rfl (.tmp 44) (.tmp 45) rfl w.heap.size _ (n + 1 + padN n) (cellsN (padP l (padN n))) rfl HO5.out _ (tailP n 8) (HT.out _ (Below.refl _ _)) rfl (by rw [tailP_len]; omega) (by omega) ?_); intro v3 w3 hown3 hgrow3; have hB3 : Below w.heap.size w w3 := (HBo.out.trans (HB.out.mono hBz)).grown hgrow3 (by omega) (fun k' hk' => (HO5.out.lt k' hk').1); have HO3 := Lib.hid (own_add HPl.out hown3); clear hown3 hgrow3)
          go_ret
          exact ⟨v3, rfl, by rw [HPe.out]; exact HO3.out, hB3⟩
end Go.Proofs.YtdhaanaenklleaaGreatDoor.S
namespace Go.Proofs.YtdhaanaenklleaaGreatDoor.S
set_option linter.unusedVariables false
open Go.ChangeShapes Go.WideShapes Go.ChangeAt Go.RowKit

theorem wpQuiet_load_row {P : Program} {C : World → Prop} {ops : Array Oper} {rest : List Oper} {o : Oper} {a : Act} {Q : Act → Prop} (hgd : o.guard = none) (ty : TypeId) (x : Operand) (ho : o.op = .load ty x)
    (g : Nat) (hx : a.eval x = .pointer (some ⟨g, 0, none⟩)) (t : TypeId) (cs : Array Value) (fr : Nat × Nat) (d : TypeDesc) (hg : ∀ w, C w → w.heap[g]? = some (.cells cs t fr))
    (hu : P.underlying ty = some d) (hd : (match d with | .struct _ | .array _ _ => true | _ => false) = true) (hi : (P.info? ty).map (·.size) = some cs.size)
    (h : wpQuiet P ops C Q rest (a.put o.dst (.agg cs))) : wpQuiet P ops C Q (o :: rest) a := by
  refine Go.BigFrame.wpQuiet_want (by simp [Region.wanted, hgd]) fun K hK => ⟨.agg cs, fun w hw => ?_, hK _ h⟩
  unfold Oper.quietAt execOp
  simp only [ho, hx, Instr.loadAt, Instr.sureAddr, Sem.run_bind, Sem.run_pure, Result.andThen_ok, run_loadVar_row w g t ty cs fr d (hg w hw) hu hd hi]
  exact ⟨rfl, rfl⟩

theorem sl27 (g n cap lo : Nat) (h : lo + 64 ≤ n) (hc : n ≤ cap) (z1 z2 : Int) (e1 : z1 = (lo : Int)) (e2 : z2 = (lo : Int) + 64) (w1 : World) :
    (Instr.slice 56 (.slice (some ⟨g, 0, none⟩) n cap) (some (.int .i64 z1)) (some (.int .i64 z2)) none).run Tryz.prog w1 = .ok (.slice (some ⟨g, lo, none⟩) 64 (cap - lo)) w1 := by
  subst e1; subst e2
  have he : Tryz.prog.elem 56 = 5 := by kernel_rfl
  have hz : (sizeOf 5).run Tryz.prog w1 = .ok 1 w1 := by simp [go_sem]
  rw [run_slice_lh w1 56 _ _ _ (by rw [he]; exact Tryz.underlying56) .i64 .i64 _ _ (by omega) (by omega) (by omega), he, hz]
  have a1 : ((lo : Int) + 64).toNat = lo + 64 := by omega
  simp only [Result.andThen_ok, sliced, Int.toNat_natCast, a1]
  rw [if_neg (by omega), show lo + 64 - lo = 64 by omega]
  simp only [Option.map, Addr.add, Nat.mul_one]
  split <;> simp_all
theorem pad_small {l : List Nat} (h : Small 256 l) : Small 256 (pad l) := fun j => by
  by_cases hj : j < (pad l).length
  · rw [pad_get l j hj]
    split
    · exact h j
    · split
      · decide
      · split
        · decide
        · exact Nat.mod_lt _ (by decide)
  · rw [getD_out _ _ (by omega)]; decide
theorem slab_small {l : List Nat} (h : Small 256 l) (i : Nat) : Small 256 (slab l i) := fun j => by
  by_cases hj : j < 64
  · rw [slab_get _ _ _ hj]; exact h _
  · rw [getD_out _ _ (by simp [slab]; omega)]; decide
theorem pad_64 (l : List Nat) : 64 * ((pad l).length / 64) = (pad l).length := by
  have h := pad_len l
  unfold padN at h
  omega
theorem dof_start (w : World) (z23 c40 : Array Value) (l : List Nat) (h23 : z23 = Array.replicate 32 (.int .u8 0)) (h40 : c40 = ints .u32 l) (hl : l.length = 8) :
    Arr ((w.alloc (.cells z23 31)).alloc (.cells c40 136)) w.heap.size 31 32 .u8 [] ∧ Arr ((w.alloc (.cells z23 31)).alloc (.cells c40 136)) (w.heap.size + 1) 136 8 .u32 l ∧ Below w.heap.size w ((w.alloc (.cells z23 31)).alloc (.cells c40 136)) := by
  obtain ⟨w1, e1⟩ : ∃ w1, w1 = w.alloc (.cells z23 31) := ⟨_, rfl⟩
  obtain ⟨w2, e2⟩ : ∃ w2, w2 = w1.alloc (.cells c40 136) := ⟨_, rfl⟩
  rw [← e1, ← e2]
  have s1 : w1.heap.size = w.heap.size + 1 := by rw [e1]; simp
  have b1 : Below w.heap.size w w1 := e1 ▸ (Below.refl _ _).alloc (Nat.le_refl _) _
  have b2 : Below w1.heap.size w1 w2 := e2 ▸ (Below.refl _ _).alloc (Nat.le_refl _) _
  have a1 : Arr w1 w.heap.size 31 32 .u8 [] := e1 ▸ arr_zero (heap_alloc_new w _) h23
  have a2 : Arr w2 w1.heap.size 136 8 .u32 l := e2 ▸ arr_ints (h40 ▸ heap_alloc_new w1 _) hl
  exact ⟨a1.below b2, s1 ▸ a2, b1.trans (b2.mono (by omega))⟩

theorem OwnB.row {base : Nat} {w : World} {v : Value} {l : List Nat} (h : OwnB base w v l) (hl : 0 < l.length) : ∃ g cap, v = .slice (some ⟨g, 0, none⟩) l.length cap ∧ l.length ≤ cap ∧ base ≤ g ∧ g < w.heap.size ∧ ∀ j, j < l.length → w.cell? ⟨g, j, none⟩ = some (.int .u8 ((l.getD j 0 : Nat) : Int)) := by
  rcases h.2 with ⟨hv, hn⟩ | ⟨g, cap, cur, hv, hb, hg, hcap, hmax, hsz, htake⟩
  · omega
  · refine ⟨g, cap, hv, hcap, hb, lt_of_block hg, fun i hi => ?_⟩
    rw [block_cell hg]
    have e : (cur.toList.take (l.length * 1))[i]? = (cellsN l)[i]? := by rw [htake]
    rw [List.getElem?_take_of_lt (by omega), cellsN_get _ _ hi] at e
    simpa using e

set_option maxRecDepth 100000 in
set_option maxHeartbeats 1000000 in
theorem dof_any (v : Value) (l : List Nat) (w : World) (hv : BytsN w v l) (hs : Small 256 l) (hl : l.length ≤ 70368744177664) :
    Calls Tryz.prog 68 #[v] w fun e w' => e = .returned (.agg (ints .u8 (shaL l))) ∧ Below w.heap.size w w' := by
  obtain ⟨p, cap, rfl⟩ := hv.shape
  have Hv := Lib.hid (fun w1 (hB : Below w.heap.size w w1) => padded_any _ l w1 (hv.below hB) hl)
  have HST := Lib.hid (fun z23 c40 h1 h2 => dof_start w z23 c40 H0.list h1 h2 rfl)
  have hplen := pad_len l
  have hp64 := pad_64 l
  have hpz : 0 < (pad l).length ∧ (pad l).length ≤ 140737488355328 := by
    have : padN l.length < 64 := by unfold padN; omega
    omega
  have Hps := Lib.hid (pad_small hs)
  have Hsha := Lib.hid (show shaL l = digL (H0.run (pad l) ((pad l).length / 64)).list by rw [pad_run]; exact shaL_eq l)
  have Hk64 := Lib.hid (show (Tryz.prog.info? 153).map (·.size) = some (ints .u32 K64).size by rw [ints_size]; kernel_rfl)
  have HK0 := Lib.hid (show (ints .u32 K64).size = 64 by rw [ints_size]; rfl)
  obtain ⟨D, hD⟩ : ∃ D, D = shaL l := ⟨_, rfl⟩
  rw [← hD] at Hsha ⊢
  obtain ⟨pl, hpl⟩ : ∃ pl, pl = pad l := ⟨_, rfl⟩
  rw [← hpl] at Hv Hps Hsha hp64 hpz
  obtain ⟨n, hn⟩ : ∃ n, n = pl.length := ⟨_, rfl⟩
  rw [← hn] at Hsha hp64 hpz
  have Hn := Lib.hid hn
  have HD := Lib.hid hD
  have Hpl := Lib.hid hpl
  obtain ⟨q, hq⟩ : ∃ q, q = n / 64 := ⟨_, rfl⟩
  rw [← hq] at hp64 Hsha
  obtain ⟨hn0, hnm⟩ := hpz
  have Hp64 := Lib.hid hp64
  clear hv hplen hpl hD hn hq hp64
  go_enter Tryz.func68, Tryz.ntmps68
  go_wp2_with fail
  have hst := HST.out _ _ rfl rfl
  refine (Hv.out _ hst.2.2).mono ?_
  rintro e w2 ⟨v2, rfl, hO2, hB2⟩
  have hb2 := hst.2.2.trans (hB2.mono hst.2.2.size)
  obtain ⟨g, cap2, rfl, hcap2, hgb, hg2, hgo⟩ := hO2.row (by rw [← Hn.out]; exact hn0)
  rw [← Hn.out] at hcap2 hgo ⊢
  have hgb2 : w.heap.size + 1 + 1 ≤ g := by simpa using hgb
  have hr2 := hst.1.below hB2
  have hs2 := hst.2.1.below hB2
  have HR2 := Lib.hid hr2
  have HS2 := Lib.hid hs2
  have HB2 := Lib.hid hb2
  have HG2 := Lib.hid hgo
  clear hst HST hO2 hr2 hs2 hb2 hB2 hgo Hv
  go_wp2_with fail
  refine (numbers_any _).mono ?_
  rintro e w3 ⟨rfl, hB3⟩
  have hkc := heap_alloc_new w3 (.cells (ints .u32 K64) 153)
  obtain ⟨w4, hw4⟩ : ∃ w4, w4 = w3.alloc (.cells (ints .u32 K64) 153) := ⟨_, rfl⟩
  rw [← hw4] at hkc
  have hB34 : Below w3.heap.size w3 w4 := hw4 ▸ (Below.refl _ _).alloc (Nat.le_refl _) _
  have hB24 : Below w2.heap.size w2 w4 := hB3.trans (hB34.mono hB3.size)
  have hkz : w3.heap.size < w4.heap.size := by rw [hw4]; simp
  have hz23 := hB3.size
  have hgw3 : g < w3.heap.size := by omega
  have hz02 := HB2.out.size
  have hsb := HS2.out.lt
  have HKb := Lib.hid hkc
  have HB := Lib.hid (HB2.out.trans (hB24.mono hz02))
  have HR := Lib.hid (HR2.out.below hB24)
  have HS := Lib.hid (HS2.out.below hB24)
  have HG := Lib.hid (fun j hj => (hB24.cell (p := ⟨g, j, none⟩) hg2).trans (HG2.out j hj))
  have HW4 := Lib.hid hw4
  clear hkc hw4 hB34 hB24 hB3 HR2 HS2 HB2 HG2
  go_wp2_with (refine wpList_store_rowTo rfl 153 _ _ rfl rfl w3.heap.size (ints .u32 K64) rfl rfl 153 _ (heap_alloc_new w3 _) Hk64.out HK0.out.symm (ints_one _ _) ?_; rw [World.setRow_alloc_new, ← HW4.out])
  clear HW4
  go_loopg [6] q (fun gg iv wr => ∃ i : Nat, i + gg = q ∧ iv = .int .i64 ((64 * i : Nat) : Int) ∧ Arr wr w.heap.size 31 32 .u8 [] ∧ Arr wr (w.heap.size + 1) 136 8 .u32 (H0.run pl i).list ∧ wr.heap[w3.heap.size]? = some (.cells (ints .u32 K64) 153 (0, 0)) ∧ (∀ j, j < n → wr.cell? ⟨g, j, none⟩ = some (.int .u8 ((pl.getD j 0 : Nat) : Int))) ∧ Below w.heap.size w wr ∧ w3.heap.size < wr.heap.size)
  case atStart => exact ⟨0, by omega, rfl, HR.out, HS.out, HKb.out, HG.out, HB.out, hkz⟩
  case round =>
    obtain ⟨i, hig, rfl, hR, hS, hK, hG, hB, hkw⟩ := hrel
    have hn64 := Hp64.out
    by_cases hlt : i < q
    · have hltI : ((64 * i : Nat) : Int) < (n : Int) := by omega
      have hltJ : 64 * (i : Int) < (n : Int) := by omega
      have hltN : 64 * i < n := by omega
      have hsl : ∀ w1 : World, (Instr.slice 56 (.slice (some ⟨g, 0, none⟩) n cap2) (some (.int .i64 (64 * (i : Int)))) (some (.int .i64 (64 * (i : Int) + 64))) none).run Tryz.prog w1 = .ok (.slice (some ⟨g, 64 * i, none⟩) 64 (cap2 - 64 * i)) w1 :=
        sl27 g n cap2 (64 * i) (by omega) hcap2 _ _ (by omega) (by omega)
      have hgr : g < wr.heap.size := by omega
      have hSw := hS.whole (list_len _)
      have hsbr := hS.lt
      have HCS := Lib.hid (fun w1 (h1 : Below wr.heap.size wr w1) => (h1.block _ hsbr).trans hSw)
      have HCK := Lib.hid (fun w1 (h1 : Below wr.heap.size wr w1) => (h1.block _ hkw).trans hK)
      have HNX := Lib.hid (fun w1 (h1 : Below wr.heap.size wr w1) => (next_any (slab pl i) (H0.run pl i) g (64 * i) (cap2 - 64 * i) w1 (fun j hj => (h1.cell (p := ⟨g, 64 * i + j, none⟩) hgr).trans (by rw [slab_get _ _ _ hj]; exact hG _ (by omega))) (Nat.lt_of_lt_of_le hgr h1.size) (slab_small Hps.out i) (St.run_ok H0_ok _ _)).mono (fun e w2 hh => (⟨hh.1, h1.trans (hh.2.mono h1.size)⟩ : e = .returned (.agg (ints .u32 ((H0.run pl i).block (slab pl i)).list)) ∧ Below wr.heap.size wr w2)))
      rw [← St.run_succ] at HNX
      have Hz40 := Lib.hid (show (Tryz.prog.info? 136).map (·.size) = some (ints .u32 (H0.run pl i).list).size by rw [ints_size, list_len]; kernel_rfl)
      have Hz40' := Lib.hid (show (Tryz.prog.info? 136).map (·.size) = some (ints .u32 (H0.run pl (i + 1)).list).size by rw [ints_size, list_len]; kernel_rfl)
      have Heq := Lib.hid (show (ints .u32 (H0.run pl i).list).size = (ints .u32 (H0.run pl (i + 1)).list).size by rw [ints_size, list_len, ints_size, list_len])
      have Hl1 := Lib.hid (list_len (H0.run pl (i + 1)))
      have HR := Lib.hid hR
      have HK := Lib.hid hK
      have HG := Lib.hid hG
      have HB := Lib.hid hB
      clear hR hS hSw hK hG hB hn64
      obtain ⟨X1, hX1⟩ : ∃ X1, X1 = (H0.run pl (i + 1)).list := ⟨_, rfl⟩
      rw [← hX1] at HNX Hz40' Heq Hl1
      have HX1 := Lib.hid hX1
      clear hX1
      generalize (H0.run pl i).list = X0 at *
      go_wp2_with fail
      refine wp_region_class_tail (Below wr.heap.size wr) 8 (by kernel_rfl) (by kernel_rfl) (Below.refl _ _).drew ?_
      simp only [List.take_succ_cons, List.take_zero, List.drop_succ_cons, List.drop_zero]
      refine wpQuiet_load_row rfl 136 _ rfl (w.heap.size + 1) rfl 136 (ints .u32 X0) (0, 0) _ HCS.out Tryz.underlying136 rfl Hz40.out ?_
      simp only [Act.put, List.setIfInBounds_toArray, List.set_cons_succ, List.set_cons_zero]
      repeat (go_big_quiet_step (first | (intro _; rfl)))
      refine wpQuiet_load_row rfl 153 _ rfl w3.heap.size rfl 153 (ints .u32 K64) (0, 0) _ HCK.out Tryz.underlying153 rfl Hk64.out ?_
      simp only [Act.put, List.setIfInBounds_toArray, List.set_cons_succ, List.set_cons_zero]
      repeat (go_big_quiet_step (first | (intro hq; exact HNX.out _ hq)))
      refine wpQuiet_nil ?_
      intro wq hBq
      have Hq := Lib.hid hBq
      have hqs := Lib.hid (HCS.out _ hBq)
      have hqz := hBq.size
      clear hBq
      go_wp2_with (refine wpList_store_rowTo rfl 136 _ _ rfl rfl (w.heap.size + 1) (ints .u32 X1) rfl rfl 136 _ hqs.out Hz40'.out Heq.out (ints_one _ _) ?_)
      go_roundg (gk - 1)
      case measure => omega
      case rel =>
        refine ⟨i + 1, by omega, by go_num, (HR.out.below Hq.out).heap (setRow_other wq _ _ _ (by omega)), (by rw [← HX1.out]; exact arr_ints (setRow_heap _ _ _ _ _ _ hqs.out) Hl1.out), ?_, ?_, below_setRow (HB.out.trans (Hq.out.mono HB.out.size)) (by omega) _, by simp; omega⟩
        · rw [setRow_other wq _ _ _ (by omega)]; exact (Hq.out.block _ hkw).trans HK.out
        · intro j hj
          rw [cell_setRow_other wq _ _ _ (by show g ≠ _; omega)]
          exact (Hq.out.cell (p := ⟨g, j, none⟩) hgr).trans (HG.out j hj)
    · obtain rfl : i = q := by omega
      have hltI : ¬ ((64 * i : Nat) : Int) < (n : Int) := by omega
      have hltJ : ¬ 64 * (i : Int) < (n : Int) := by omega
      have hltN : ¬ 64 * i < n := by omega
      have hok := St.run_ok H0_ok pl i
      have HHs := Lib.hid (list_small hok)
      have HHl := Lib.hid (list_len (H0.run pl i))
      have Hz40 := Lib.hid (show (Tryz.prog.info? 136).map (·.size) = some (ints .u32 (H0.run pl i).list).size by rw [ints_size, list_len]; kernel_rfl)
      have Hz23 := Lib.hid (show (Tryz.prog.info? 31).map (·.size) = some (ints .u8 D).size by rw [ints_size, HD.out, shaL_len]; kernel_rfl)
      have Hdl := Lib.hid (show D.length = 32 by rw [HD.out, shaL_len])
      have Hde := Lib.hid (show dpre (H0.run pl i).list 32 = D by rw [Hsha.out]; rfl)
      have hSw := Lib.hid (hS.whole (list_len _))
      have hsbr := hS.lt
      have HR := Lib.hid hR
      have HB := Lib.hid hB
      clear hok hS hR hB hK hG hn64
      generalize (H0.run pl i).list = H at *
      have hSw2 := Lib.hid ((heap_alloc_old wr (.cells #[.int .u8 0, .int .u8 0, .int .u8 0, .int .u8 0, .int .u8 0, .int .u8 0, .int .u8 0, .int .u8 0, .int .u8 0, .int .u8 0, .int .u8 0, .int .u8 0, .int .u8 0, .int .u8 0, .int .u8 0, .int .u8 0, .int .u8 0, .int .u8 0, .int .u8 0, .int .u8 0, .int .u8 0, .int .u8 0, .int .u8 0, .int .u8 0, .int .u8 0, .int .u8 0, .int .u8 0, .int .u8 0, .int .u8 0, .int .u8 0, .int .u8 0, .int .u8 0] 31) hsbr).trans hSw.out)
      have HD0 := Lib.hid (fun z hz => (arr_zero (heap_alloc_new wr (.cells z 31)) hz : Arr (wr.alloc (.cells z 31)) wr.heap.size 31 32 .u8 []))
      have HR0 := Lib.hid (fun o => HR.out.below ((Below.refl _ _).alloc (Nat.le_refl _) o))
      have HB0 := Lib.hid (fun o => HB.out.alloc HB.out.size o)
      go_wp2_with (refine wpList_load_row rfl 136 _ rfl (w.heap.size + 1) rfl 136 (ints .u32 H) (0, 0) _ hSw2.out Tryz.underlying136 rfl Hz40.out ?_)
      have hdb : w.heap.size < wr.heap.size := by omega
      obtain ⟨db, hdbe⟩ : ∃ db, db = wr.heap.size := ⟨_, rfl⟩
      rw [← hdbe] at hdb HD0 ⊢
      have HDB := Lib.hid hdbe
      clear hdbe
      go_loopg [30] 8 (fun gg iv wr => ∃ i : Nat, i + gg = 8 ∧ iv = .int .i64 i ∧ Arr wr w.heap.size 31 32 .u8 [] ∧ Arr wr db 31 32 .u8 (dpre H (4 * i)) ∧ Below w.heap.size w wr)
      case atStart => exact ⟨0, by omega, rfl, HR0.out _, HD0.out _ rfl, HB0.out _⟩
      case round =>
        obtain ⟨i, hig, rfl, hR, hD, hB⟩ := hrel
        by_cases hlt : i < 8
        · have hltI : (i : Int) < 8 := by omega
          have hix := index40 H i HHl.out hlt wr
          have hx := HHs.out i
          have Hb0 := Lib.hid (dbyte0 H i)
          have Hb1 := Lib.hid (dbyte1 H i)
          have Hb2 := Lib.hid (dbyte2 H i)
          have Hb3 := Lib.hid (dbyte3 H i)
          obtain ⟨x, hxe⟩ : ∃ x, H.getD i 0 = x := ⟨_, rfl⟩
          rw [hxe] at hix hx Hb0 Hb1 Hb2 Hb3
          obtain ⟨gko, rfl⟩ : ∃ g, g = gk := ⟨gk, rfl⟩
          have HR := Lib.hid hR
          have HD := Lib.hid hD
          have HB := Lib.hid hB
          clear hR hD hB
          go_wp2_with fail
          go_loopg [10] 4 (fun g jv wr => ∃ j : Nat, j + g = 4 ∧ jv = .int .i64 j ∧ Arr wr w.heap.size 31 32 .u8 [] ∧ Arr wr db 31 32 .u8 (dpre H (4 * i + j)) ∧ Below w.heap.size w wr)
          case atStart => exact ⟨0, by omega, rfl, HR.out, HD.out, HB.out⟩
          case round =>
          obtain ⟨j, hjg, rfl, hR, hD, hB⟩ := hrel
          have hj : j = 0 ∨ j = 1 ∨ j = 2 ∨ j = 3 ∨ j = 4 := by omega
          rcases hj with rfl | rfl | rfl | rfl | rfl
          · have c1 := hD.cell (4 * i + 0) (by omega)
            have f1 := hD.free (4 * i + 0)
            have Hn := Lib.hid (fun v => (by have h := hD.snoc (by rw [dpre_len]; omega) v; rw [dpre_len] at h; exact h : Arr (wr.setCell ⟨db, 4 * i + 0, none⟩ (.int .u8 ((v : Nat) : Int))) db 31 32 .u8 (dpre H (4 * i + 0) ++ [v])))
            have HR2 := Lib.hid (fun v => hR.other ⟨db, 4 * i + 0, none⟩ v (by show w.heap.size ≠ db; omega))
            clear hD hR
            simp only [Nat.add_zero] at c1 f1 Hn HR2
            go_wp2_with fail
            go_roundg (gk - 1)
            case measure => omega
            case rel => exact ⟨0 + 1, by omega, by go_num, HR2.out _, by have e : (x : Int) / 16777216 = ((dbyte H (4 * i + 0) : Nat) : Int) := (by rw [Hb0.out]; omega); rw [dpre_succ, e]; exact Hn.out _, hB.setCell (by show w.heap.size ≤ db; omega) _⟩
          · have c1 := hD.cell (4 * i + 1) (by omega)
            have f1 := hD.free (4 * i + 1)
            have Hn := Lib.hid (fun v => (by have h := hD.snoc (by rw [dpre_len]; omega) v; rw [dpre_len] at h; exact h : Arr (wr.setCell ⟨db, 4 * i + 1, none⟩ (.int .u8 ((v : Nat) : Int))) db 31 32 .u8 (dpre H (4 * i + 1) ++ [v])))
            have HR2 := Lib.hid (fun v => hR.other ⟨db, 4 * i + 1, none⟩ v (by show w.heap.size ≠ db; omega))
            clear hD hR
            go_wp2_with fail
            go_roundg (gk - 1)
            case measure => omega
            case rel => exact ⟨1 + 1, by omega, by go_num, HR2.out _, by have e : (x : Int) / 65536 % 256 = ((dbyte H (4 * i + 1) : Nat) : Int) := (by rw [Hb1.out]; omega); rw [dpre_succ, e]; exact Hn.out _, hB.setCell (by show w.heap.size ≤ db; omega) _⟩
          · have c1 := hD.cell (4 * i + 2) (by omega)
            have f1 := hD.free (4 * i + 2)
            have Hn := Lib.hid (fun v => (by have h := hD.snoc (by rw [dpre_len]; omega) v; rw [dpre_len] at h; exact h : Arr (wr.setCell ⟨db, 4 * i + 2, none⟩ (.int .u8 ((v : Nat) : Int))) db 31 32 .u8 (dpre H (4 * i + 2) ++ [v])))
            have HR2 := Lib.hid (fun v => hR.other ⟨db, 4 * i + 2, none⟩ v (by show w.heap.size ≠ db; omega))
            clear hD hR
            go_wp2_with fail
            go_roundg (gk - 1)
            case measure => omega
            case rel => exact ⟨2 + 1, by omega, by go_num, HR2.out _, by have e : (x : Int) / 256 % 256 = ((dbyte H (4 * i + 2) : Nat) : Int) := (by rw [Hb2.out]; omega); rw [dpre_succ, e]; exact Hn.out _, hB.setCell (by show w.heap.size ≤ db; omega) _⟩
          · have c1 := hD.cell (4 * i + 3) (by omega)
            have f1 := hD.free (4 * i + 3)
            have Hn := Lib.hid (fun v => (by have h := hD.snoc (by rw [dpre_len]; omega) v; rw [dpre_len] at h; exact h : Arr (wr.setCell ⟨db, 4 * i + 3, none⟩ (.int .u8 ((v : Nat) : Int))) db 31 32 .u8 (dpre H (4 * i + 3) ++ [v])))
            have HR2 := Lib.hid (fun v => hR.other ⟨db, 4 * i + 3, none⟩ v (by show w.heap.size ≠ db; omega))
            clear hD hR
            go_wp2_with fail
            go_roundg (gk - 1)
            case measure => omega
            case rel => exact ⟨3 + 1, by omega, by go_num, HR2.out _, by have e : (x : Int) % 256 = ((dbyte H (4 * i + 3) : Nat) : Int) := (by rw [Hb3.out]; omega); rw [dpre_succ, e]; exact Hn.out _, hB.setCell (by show w.heap.size ≤ db; omega) _⟩
          · go_wp2_with fail
            go_roundg (gko - 1)
            case measure => omega
            case rel => exact ⟨i + 1, by omega, by go_num, hR, hD, hB⟩
        · have hnl : ¬ (i : Int) < 8 := by omega
          obtain rfl : i = 8 := by omega
          have hwh := hD.whole (by rw [dpre_len])
          obtain ⟨old, ho1, ho2, _⟩ := hR
          have hwh2 : wr.heap[db]? = some (.cells (ints .u8 D) 31 (0, 0)) := by rw [hwh]; rw [show 4 * 8 = 32 by rfl, Hde.out]
          have Hwh := Lib.hid hwh2
          clear hwh2
          have Ho1 := Lib.hid ho1
          have Ho3 := Lib.hid (show old.size = (ints .u8 D).size by rw [ints_size, Hdl.out, ho2])
          have HB := Lib.hid hB
          clear hB hwh ho1 ho2 hD
          go_wp2_with (first
            | (refine wpList_load_row rfl 31 _ rfl db rfl 31 (ints .u8 D) (0, 0) _ Hwh.out Tryz.underlying31 rfl Hz23.out ?_)
            | (refine wpList_store_rowTo rfl 31 _ _ rfl rfl w.heap.size (ints .u8 D) rfl rfl 31 _ Ho1.out Hz23.out Ho3.out (ints_one _ _) ?_))
          refine bodyPost_ret (v := .agg (ints .u8 D)) (results_cell_row (fr := (0, 0)) rfl _ _ w.heap.size 31 _ _ rfl (setRow_heap _ _ _ _ _ _ Ho1.out) Tryz.underlying31 rfl Hz23.out) rfl ⟨rfl, below_setRow HB.out (Nat.le_refl _) _⟩
end Go.Proofs.YtdhaanaenklleaaGreatDoor.S
namespace Go.Proofs.YtdhaanaenklleaaGreatDoor.S
set_option linter.unusedVariables false
open Go.ChangeShapes Go.WideShapes Go.ChangeAt Go.RowKit

theorem Tryz.info9 : (Tryz.prog.info? 9).map (fun i => (i.zero, i.size, i.bytes)) = some (some (.string ⟨#[]⟩), 1, 16) := by kernel_rfl

theorem joinB_size (ss : List ByteArray) : (joinB ss).size = 8 + 8 * ss.length + total ss := by
  rw [← ba_len, joinB_list, List.length_append, numB_len, partsL_len]; omega
theorem _root_.Go.Proofs.YtdhaanaenklleaaGreatDoor.Strs.shape {w : World} {v : Value} {ss : List ByteArray} (h : Strs w v ss) : ∃ p cap, v = .slice p ss.length cap := by
  rcases h with ⟨⟨p, cap, rfl⟩, rfl⟩ | ⟨b, off, cap, hv, hl, hm, hb, hcell⟩
  · exact ⟨p, cap, rfl⟩
  · exact ⟨_, cap, hv⟩

theorem run_append_none_cap {P : Program} {w : World} (base : Nat) (t ty e : TypeId) (i : TypeInfo) (size c : Nat) (ht : P.underlying t = some (.slice e)) (hi : P.info? e = some i)
    (v : Value) (n : Nat) (xs : List Value) (hown : w.ownsRow base e size v n xs) :
    (Builtin.append_ #[t, t] ty #[v, .slice none 0 c]).run P w = .ok v w := by
  rcases hown.2 with ⟨rfl, rfl⟩ | ⟨g, cap, cur, rfl, _, _, hnc, _⟩
  · simp [Builtin.append_, run_underlying ht, sizeOf, typeInfo, hi, Builtin.lenOf, Builtin.firstCells]
  · simp [Builtin.append_, run_underlying ht, sizeOf, typeInfo, hi, Builtin.lenOf, Builtin.firstCells, hnc, storeCells]

/-- Texts are put behind a row of texts that is owned. -/
theorem wpList_append_strs {w : World} {ops : Array Oper} {rest : List Oper} {o : Oper} {a : Act} {Q : Exit → Act → World → Prop} (hgd : o.guard = none) (s x : Operand)
    (ho : o.op = .call { callee := .builtin .append, args := #[s, x], argTypes := #[99, 99] }) (base : Nat) (v : Value) (xs : List ByteArray) (hs : a.eval s = v) (hown : w.ownsRow base 9 1 v xs.length (xs.map Value.string))
    (u : Value) (l : List ByteArray) (hu : Strs w u l) (hx : a.eval x = u) (hb : (xs.length + l.length) * 16 ≤ 140737488355328) (hbase : base ≤ w.heap.size)
    (h : ∀ v' w', w'.ownsRow base 9 1 v' (xs ++ l).length ((xs ++ l).map Value.string) → w.grownBy w' v.ownBlock → wpList Tryz.prog ops Q rest (a.put o.dst v') w') : wpList Tryz.prog ops Q (o :: rest) a w := by
  obtain ⟨i0, hi, hz0, hz1, hz2⟩ := info_parts Tryz.info9
  rcases hu with ⟨⟨p, cap, rfl⟩, rfl⟩ | ⟨b, off, cap, rfl, hcap, hmax, hb2, hcell⟩
  · cases p with
    | none =>
      have hr := run_append_none_cap (P := Tryz.prog) base 99 o.type 9 i0 1 cap Tryz.underlying99 hi v xs.length (xs.map Value.string) hown
      refine wpList_plain hgd fun K hK => ?_
      unfold Oper.wp execOp
      simp only [ho, resolve, invoke, builtin, Sem.run_bind, Sem.run_pure, Result.andThen_ok, List.map_toArray, List.map_cons, List.map_nil, hs, hx]
      have hr' : (Builtin.append_ #[99, 99] o.type #[v, .slice none ([] : List ByteArray).length cap]).run Tryz.prog w = .ok v w := hr
      simp only [List.length_nil] at hr'
      first
        | (rw [hr']; exact hK _ _ (h v w (by simpa using hown) (World.grownBy.refl _ _)))
        | (simp only [hr']; exact hK _ _ (h v w (by simpa using hown) (World.grownBy.refl _ _)))
    | some ad =>
      exact wpList_append_own w hgd s x 99 ho base 9 i0 (.string ⟨#[]⟩) 1 16 Tryz.underlying99 hi hz0 hz1 hz2 rfl (by decide) v xs.length (xs.map Value.string) hs hown ad 0 cap [] hx rfl (fun j u h => by simp at h) (fun u h => by simp at h) (by unfold maxLen; simp at hb; omega) (by simpa using hb) hbase (fun v' w' h1 h2 _ => h v' w' (by simpa using h1) h2)
  · refine wpList_append_own w hgd s x 99 ho base 9 i0 (.string ⟨#[]⟩) 1 16 Tryz.underlying99 hi hz0 hz1 hz2 rfl (by decide) v xs.length (xs.map Value.string) hs hown ⟨b, off, none⟩ l.length cap (l.map Value.string) hx (by simp) (fun j y hj => ?_) (fun y hy => by obtain ⟨s, _, rfl⟩ := List.mem_map.1 hy; rfl) (by unfold maxLen; omega) hb hbase (fun v' w' h1 h2 _ => h v' w' (by simpa using h1) h2)
    have hjl : j < l.length := by have := (List.getElem?_eq_some_iff.1 hj).1; simpa using this
    rw [add_none, hcell j hjl]
    rw [List.getElem?_map, List.getElem?_eq_getElem hjl] at hj
    simpa [List.getD, hjl] using hj

theorem _root_.Go.Proofs.YtdhaanaenklleaaGreatDoor.Strs.ofOwn {w : World} {base : Nat} {v : Value} {ss : List ByteArray} (h : w.ownsRow base 9 1 v ss.length (ss.map Value.string)) : Strs w v ss := Strs.ofRow h
theorem strs_one (w : World) (s : ByteArray) : Strs (w.alloc (.cells #[.string s] 9)) (.slice (some ⟨w.heap.size, 0, none⟩) 1 1) [s] :=
  .inr ⟨w.heap.size, 0, 1, rfl, by simp, by unfold maxLen; decide, by simp, fun i hi => by
    obtain rfl : i = 0 := by simpa using hi
    rw [World.cell?_alloc_at _ _ _ _ rfl]; rfl⟩
set_option maxRecDepth 100000 in
set_option maxHeartbeats 1000000 in
theorem sum_any (p : ByteArray) (v : Value) (ss : List ByteArray) (w : World) (hK : KeysAt w) (hv : Strs w v ss) (hz : total (p :: ss) ≤ 1099511627776) (hl : ss.length ≤ 1099511627) :
    Calls Tryz.prog 44 #[.string p, v] w fun e w' => e = .returned (.agg (ints .u8 (shaL (bytesL (joinB (p :: ss)))))) ∧ Below w.heap.size w w' := by
  obtain ⟨pp, cap, rfl⟩ := hv.shape
  have Hv := Lib.hid (fun w1 (hB : Below w.heap.size w w1) => hv.below hB)
  have HK := Lib.hid hK
  have Hz := Lib.hid hz
  obtain ⟨i0, hi, hz0, hz1, hz2⟩ := info_parts Tryz.info9
  obtain ⟨n, hn⟩ : ∃ n, n = ss.length := ⟨_, rfl⟩
  rw [← hn] at Hv hl ⊢
  have Hn := Lib.hid hn
  clear hv hK hz hn
  have HKb := Lib.hid (fun o => HK.out.below (w' := w.alloc o) HK.out.1 ((Below.refl _ _).alloc (Nat.le_refl _) o))
  have HA0 := Lib.hid (fun z hz => (arr_zero (heap_alloc_new w (.cells z 32)) hz : Arr (w.alloc (.cells z 32)) w.heap.size 32 32 .u8 []))
  have HB0 := Lib.hid (fun o => (Below.refl w.heap.size w).alloc (Nat.le_refl _) o)
  have hw0 := HK.out.1
  have HSZ := Lib.hid (fun o => (by simp : (w.alloc o).heap.size = w.heap.size + 1))
  go_enter Tryz.func44, Tryz.ntmps44
  go_wp2_with (first
    | (at_make; refine wpList_make_own _ rfl _ _ 99 rfl (w.heap.size + 1) 9 i0 (.string ⟨#[]⟩) 1 Tryz.underlying99 hi hz0 hz1 .i64 .i64 _ (1 + n) rfl rfl (by omega) (by rw [hz2]; omega) (by unfold maxLen; omega) (by simp) ?_; intro w1 hown1 hgrow1; have hB1 : Below (w.heap.size + 1) _ w1 := (Below.refl _ _).grown hgrow1 (by simp) (fun k h => by cases h); go_must (rw [HSZ.out] at hown1))
    | (at_builtin; refine wpList_append_strs rfl (.tmp 10) (.tmp 12) rfl (w.heap.size + 1) _ [] rfl (hown1.alloc _) _ [p] (strs_one w1 p) rfl (by simp) (by have := hB1.size; simp at this ⊢; omega) ?_; intro v2 w2 hown2 hgrow2; have hB2 := (hB1.alloc (by have := hB1.size; simp at this; omega) _).grown hgrow2 (by have := hB1.size; simp at this ⊢; omega) (fun k hk => (hown1.lt k hk).1); clear hown1 hgrow1 hgrow2 hB1)
    | (at_builtin; refine wpList_append_strs rfl (.tmp 14) (.tmp 15) rfl (w.heap.size + 1) _ [p] rfl hown2 _ ss (Hv.out w2 ((HB0.out _).trans (hB2.mono (by omega)))) rfl (by have := Hn.out; simp; omega) (by have := hB2.size; simp at this; omega) ?_; intro v3 w3 hown3 hgrow3; have hB3 := hB2.grown hgrow3 (by have := hB2.size; simp at this; omega) (fun k hk => (hown2.lt k hk).1); clear hown2 hgrow3 hB2))
  have hs3 : Strs w3 v3 (p :: ss) := Strs.ofOwn hown3
  have hb3 : Below w.heap.size w w3 := (HB0.out _).trans (hB3.mono (by omega))
  have hA3 : Arr w3 w.heap.size 32 32 .u8 [] := (HA0.out _ rfl).heap (hB3.block w.heap.size (by omega))
  have hJ := join_any v3 (p :: ss) w3 hs3 Hz.out (by have := Hn.out; simp; omega)
  have hjz : (joinB (p :: ss)).size ≤ 140737488355328 := by
    have h := joinB_size (p :: ss)
    have h1 := Hz.out
    have h2 := Hn.out
    simp only [List.length_cons] at h
    omega
  have HJ := Lib.hid hJ
  have HA3 := Lib.hid hA3
  have HB3 := Lib.hid hb3
  clear hs3 hown3 hB3 hb3 hA3 hJ
  obtain ⟨x, hx⟩ : ∃ x, x = joinB (p :: ss) := ⟨_, rfl⟩
  rw [← hx] at HJ hjz
  obtain ⟨D, hDe⟩ : ∃ D, D = shaL (bytesL x) := ⟨_, rfl⟩
  have HDs := Lib.hid (show D = shaL (bytesL (joinB (p :: ss))) by rw [hDe, hx])
  have HDe := Lib.hid hDe
  clear hDe hx
  refine HJ.out.mono ?_
  rintro e w4 ⟨rfl, hB4⟩
  have hb4 := HB3.out.trans (hB4.mono HB3.out.size)
  have HO := Lib.hid (of_any x w4 (HK.out.below HK.out.1 hb4) hjz)
  have HA4 := Lib.hid (HA3.out.below hB4)
  have HB4 := Lib.hid hb4
  clear hB4 hb4 HJ HA3 HB3
  go_wp2_with fail
  refine HO.out.mono ?_
  rintro e w5 ⟨rfl, hB5⟩
  have HA5 := Lib.hid (HA4.out.below hB5)
  have HB5 := Lib.hid (HB4.out.trans (hB5.mono HB4.out.size))
  have HDl := Lib.hid (shaL_len (bytesL x))
  clear hB5 HO
  rw [← HDe.out] at HDl ⊢
  have Hz24 := Lib.hid (show (Tryz.prog.info? 32).map (·.size) = some (ints .u8 D).size by rw [ints_size, HDl.out]; kernel_rfl)
  obtain ⟨old, ho1, ho2, _⟩ := HA5.out
  have Ho1 := Lib.hid ho1
  have Ho3 := Lib.hid (show old.size = (ints .u8 D).size by rw [ints_size, HDl.out, ho2])
  clear ho1 ho2
  go_wp2_with (refine wpList_store_rowTo rfl 32 _ _ rfl rfl w.heap.size (ints .u8 D) rfl rfl 32 _ Ho1.out Hz24.out Ho3.out (ints_one _ _) ?_)
  refine bodyPost_ret (v := .agg (ints .u8 D)) (results_cell_row (fr := (0, 0)) rfl _ _ w.heap.size 32 _ _ rfl (setRow_heap _ _ _ _ _ _ Ho1.out) Tryz.underlying32 rfl Hz24.out) rfl ⟨by rw [HDs.out], below_setRow HB5.out (Nat.le_refl _) _⟩
end Go.Proofs.YtdhaanaenklleaaGreatDoor.S
namespace Go.Proofs.YtdhaanaenklleaaGreatDoor.S
set_option linter.unusedVariables false
open Go.RowKit

theorem mapM_some {α β : Type} (f : α → Option β) (g : α → β) : ∀ is : List α, (∀ i ∈ is, f i = some (g i)) → is.mapM f = some (is.map g)
  | [], _ => rfl
  | i :: is, h => by
    rw [List.mapM_cons, h i (List.mem_cons_self), mapM_some f g is fun j hj => h j (List.mem_cons_of_mem _ hj)]
    rfl
end Go.Proofs.YtdhaanaenklleaaGreatDoor.S
