/- Walks: what is left of a text is taken in, and what stands behind it. -/
import Derived.Test.YtbenegkhekofmaaDoorWh
namespace Go.Proofs.YtbenegkhekofmaaDoor
set_option linter.unusedVariables false
open Go.ChangeShapes Go.WideShapes Go.ChangeAt Go.RowKit

def cb (m i : Nat) : Nat := m / 2 ^ (56 - 8 * i) % 256
def fin (Z : List Nat) (m : Nat) : List Nat := (List.range 64).map fun j => if j < 56 then Z.getD j 0 else cb m (j - 56)
def St.last (S : St) (r : List Nat) (m : Nat) : St := if r.length < 56 then S.block (fin (over (r ++ [128]) []) m) else (S.block (over (r ++ [128]) [])).block (fin [] m)
theorem St.last_lo (S : St) (r : List Nat) (m : Nat) (h : r.length < 56) : S.last r m = S.block (fin (over (r ++ [128]) []) m) := if_pos h
theorem St.last_hi (S : St) (r : List Nat) (m : Nat) (h : ¬ r.length < 56) : S.last r m = (S.block (over (r ++ [128]) [])).block (fin [] m) := if_neg h
theorem range_small {F : Nat → Nat} {n b : Nat} (hb : 0 < b) (h : ∀ j, j < n → F j < b) : Small b ((List.range n).map F) := fun j => by
  by_cases hj : j < n
  · rw [getD_range F n j hj]; exact h j hj
  · rw [List.getD_eq_getElem?_getD, List.getElem?_eq_none (by simp; omega)]; exact hb
theorem fin_small (Z : List Nat) (m : Nat) (h : Small 256 Z) : Small 256 (fin Z m) := range_small (by decide) fun j _ => by
  split
  · exact h j
  · exact Nat.mod_lt _ (by decide)
theorem over_small {a l : List Nat} (ha : Small 256 a) (hl : Small 256 l) : Small 256 (over a l) := range_small (by decide) fun j _ => by
  split
  · exact ha j
  · exact hl j
theorem nil_small : Small 256 [] := fun j => by simp
theorem St.block_ok (S : St) (B : List Nat) : (S.block B).ok := St.ok_plus _ _

set_option maxRecDepth 100000 in
set_option maxHeartbeats 1000000 in
theorem end_lo (s : ByteArray) (S : St) (base sb sz m : Nat) (w : World) (hS : Arr w sb 41 8 .u32 S.list) (hok : S.ok) (hK : KeysAt w) (hb0 : 0 < base) (hbase : base ≤ sb) (hsz : s.size < 56) (hm : m = sz * 8) (hm2 : sz < 1152921504606846976) :
    Calls Tryd.prog 17 #[.pointer (some ⟨sb, 0, none⟩), .string s, .int .i64 sz] w fun e w' => e = .returned (.tuple #[]) ∧ Below base w w' ∧ Arr w' sb 41 8 .u32 (S.last (bytesL s) m).list := by
  have hsb := hS.lt
  have hsl := fun w1 => slice42all w1 w.heap.size
  obtain ⟨r, hr⟩ : ∃ r, r = bytesL s := ⟨_, rfl⟩
  have hrl : r.length = s.size := by rw [hr, bytesL_len]
  have hrs : Small 256 r := hr ▸ bytesL_small s
  have HFin := Lib.hid (St.last_lo S r m (by omega))
  rw [← hr]
  obtain ⟨w1, hw1⟩ : ∃ w1, w1 = (w.alloc (.cells #[.int .u8 0, .int .u8 0, .int .u8 0, .int .u8 0, .int .u8 0, .int .u8 0, .int .u8 0, .int .u8 0, .int .u8 0, .int .u8 0, .int .u8 0, .int .u8 0, .int .u8 0, .int .u8 0, .int .u8 0, .int .u8 0, .int .u8 0, .int .u8 0, .int .u8 0, .int .u8 0, .int .u8 0, .int .u8 0, .int .u8 0, .int .u8 0, .int .u8 0, .int .u8 0, .int .u8 0, .int .u8 0, .int .u8 0, .int .u8 0, .int .u8 0, .int .u8 0, .int .u8 0, .int .u8 0, .int .u8 0, .int .u8 0, .int .u8 0, .int .u8 0, .int .u8 0, .int .u8 0, .int .u8 0, .int .u8 0, .int .u8 0, .int .u8 0, .int .u8 0, .int .u8 0, .int .u8 0, .int .u8 0, .int .u8 0, .int .u8 0, .int .u8 0, .int .u8 0, .int .u8 0, .int .u8 0, .int .u8 0, .int .u8 0, .int .u8 0, .int .u8 0, .int .u8 0, .int .u8 0, .int .u8 0, .int .u8 0, .int .u8 0, .int .u8 0] 42)).setRow w.heap.size (ints .u8 (over r [])) := ⟨_, rfl⟩
  have hcp : ∀ ty, (Builtin.copy_ #[27, 9] ty #[.slice (some ⟨w.heap.size, 0, none⟩) 64 64, .string s]).run Tryd.prog (w.alloc (.cells #[.int .u8 0, .int .u8 0, .int .u8 0, .int .u8 0, .int .u8 0, .int .u8 0, .int .u8 0, .int .u8 0, .int .u8 0, .int .u8 0, .int .u8 0, .int .u8 0, .int .u8 0, .int .u8 0, .int .u8 0, .int .u8 0, .int .u8 0, .int .u8 0, .int .u8 0, .int .u8 0, .int .u8 0, .int .u8 0, .int .u8 0, .int .u8 0, .int .u8 0, .int .u8 0, .int .u8 0, .int .u8 0, .int .u8 0, .int .u8 0, .int .u8 0, .int .u8 0, .int .u8 0, .int .u8 0, .int .u8 0, .int .u8 0, .int .u8 0, .int .u8 0, .int .u8 0, .int .u8 0, .int .u8 0, .int .u8 0, .int .u8 0, .int .u8 0, .int .u8 0, .int .u8 0, .int .u8 0, .int .u8 0, .int .u8 0, .int .u8 0, .int .u8 0, .int .u8 0, .int .u8 0, .int .u8 0, .int .u8 0, .int .u8 0, .int .u8 0, .int .u8 0, .int .u8 0, .int .u8 0, .int .u8 0, .int .u8 0, .int .u8 0, .int .u8 0] 42)) = .ok (.int .i64 (s.size : Int)) w1 := fun ty => by
    have h := copy_arr (w.alloc (.cells #[.int .u8 0, .int .u8 0, .int .u8 0, .int .u8 0, .int .u8 0, .int .u8 0, .int .u8 0, .int .u8 0, .int .u8 0, .int .u8 0, .int .u8 0, .int .u8 0, .int .u8 0, .int .u8 0, .int .u8 0, .int .u8 0, .int .u8 0, .int .u8 0, .int .u8 0, .int .u8 0, .int .u8 0, .int .u8 0, .int .u8 0, .int .u8 0, .int .u8 0, .int .u8 0, .int .u8 0, .int .u8 0, .int .u8 0, .int .u8 0, .int .u8 0, .int .u8 0, .int .u8 0, .int .u8 0, .int .u8 0, .int .u8 0, .int .u8 0, .int .u8 0, .int .u8 0, .int .u8 0, .int .u8 0, .int .u8 0, .int .u8 0, .int .u8 0, .int .u8 0, .int .u8 0, .int .u8 0, .int .u8 0, .int .u8 0, .int .u8 0, .int .u8 0, .int .u8 0, .int .u8 0, .int .u8 0, .int .u8 0, .int .u8 0, .int .u8 0, .int .u8 0, .int .u8 0, .int .u8 0, .int .u8 0, .int .u8 0, .int .u8 0, .int .u8 0] 42)) w.heap.size [] s ty (arr_zero (heap_alloc_new w _) rfl)
    rw [Nat.min_eq_left (by omega), ← hr, List.take_of_length_le (by omega), ← hw1] at h
    exact h
  have hA1 : Arr w1 w.heap.size 42 64 .u8 (over r []) := by
    rw [hw1]
    exact arr_ints (setRow_heap _ _ _ _ _ _ (heap_alloc_new w _)) (over_len _ _)
  have hB1 : Below w.heap.size w w1 := by
    rw [hw1]
    exact below_setRow ((Below.refl _ _).alloc (Nat.le_refl _) _) (Nat.le_refl _) _
  clear hw1
  have c1 := hA1.cell s.size (by omega)
  have f1 := hA1.free s.size
  obtain ⟨ZZ, hZZ⟩ : ∃ ZZ, ZZ = over (r ++ [128]) [] := ⟨_, rfl⟩
  have hA2 := hA1.set (i := s.size) (by omega) 128 ZZ (fun j hj => by
    rw [hZZ, over_get _ _ j hj, over_get _ _ j hj, List.length_append, List.length_cons, List.length_nil, getD_snoc, hrl]
    by_cases e : s.size = j
    · rw [if_pos e, if_pos (by omega), if_pos e]
    · rw [if_neg e, if_neg e]
      by_cases e2 : j < s.size
      · rw [if_pos (by omega), if_pos e2]
      · rw [if_neg (by omega), if_neg e2])
  have hZs : Small 256 ZZ := hZZ ▸ over_small (hrs.snoc (by decide)) nil_small
  have HZ := Lib.hid hA2
  obtain ⟨SS, hSS⟩ : ∃ SS, SS = S := ⟨_, rfl⟩
  have hSo : SS.ok := hSS ▸ hok
  have HSt := Lib.hid ((hSS ▸ (hS.below hB1).other ⟨w.heap.size, s.size, none⟩ (.int .u8 128) (by show sb ≠ w.heap.size; omega)) : Arr (w1.setCell ⟨w.heap.size, s.size, none⟩ (.int .u8 128)) sb 41 8 .u32 SS.list)
  have HBe := Lib.hid ((hB1.mono (by omega : base ≤ w.heap.size)).setCell (p := ⟨w.heap.size, s.size, none⟩) (by show base ≤ w.heap.size; omega) (.int .u8 128))
  have hf := HFin.out
  rw [← hZZ] at hf
  have hf2 : S.last r m = SS.block (fin ZZ m) := by rw [hSS]; exact hf
  have HFin := Lib.hid hf2
  clear hf hf2
  clear hA1 hB1 hA2 hS hok hSS hZZ hr hrs hrl
  have hmI : (sz : Int) * 8 = (m : Int) := by omega
  have hmb : m < 9223372036854775808 := by omega
  clear hm
  have hlo : (s.size : Int) < 56 := by omega
  go_enter Tryd.func17, Tryd.ntmps17
  go_wp2_with fail
  go_loopg [23] 8 (fun g iv wr => ∃ i : Nat, i + g = 8 ∧ iv = .int .i64 i ∧ (∃ l, Arr wr w.heap.size 42 64 .u8 l ∧ ∀ j, j < 64 → l.getD j 0 = if 56 ≤ j ∧ j < 56 + i then cb m (j - 56) else ZZ.getD j 0) ∧ Arr wr sb 41 8 .u32 SS.list ∧ Below base w wr)
  case atStart => exact ⟨0, by omega, rfl, ⟨ZZ, HZ.out, fun j hj => by rw [if_neg (by omega)]⟩, HSt.out, HBe.out⟩
  case round =>
    obtain ⟨i, hig, rfl, ⟨l, hA, hl⟩, hS2, hB⟩ := hrel
    have hi : i = 0 ∨ i = 1 ∨ i = 2 ∨ i = 3 ∨ i = 4 ∨ i = 5 ∨ i = 6 ∨ i = 7 ∨ i = 8 := by omega
    rcases hi with rfl | rfl | rfl | rfl | rfl | rfl | rfl | rfl | rfl
    · have c1 := hA.cell 56 (by omega)
      have f1 := hA.free 56
      have Hn := Lib.hid (fun (v : Nat) l' => hA.set (i := 56) (by omega) v l')
      have Hl := Lib.hid hl
      have HS3 := Lib.hid (fun v => hS2.other ⟨w.heap.size, 56, none⟩ v (by show sb ≠ w.heap.size; omega))
      have HB3 := Lib.hid (fun v => hB.setCell (p := ⟨w.heap.size, 56, none⟩) (by show base ≤ w.heap.size; omega) v)
      clear hA hl hS2 hB
      go_wp2_with fail
      go_roundg (gk - 1)
      case measure => omega
      case rel =>
        refine ⟨0 + 1, by omega, by go_num, ⟨_, ?_, fun j hj => getD_range (fun j => if 56 ≤ j ∧ j < 56 + (0 + 1) then cb m (j - 56) else ZZ.getD j 0) 64 j hj⟩, HS3.out _, HB3.out _⟩
        have e : (m : Int) / 72057594037927936 = ((cb m 0 : Nat) : Int) := by unfold cb; omega
        rw [e]
        refine Hn.out _ _ fun j hj => ?_
        rw [getD_range _ 64 j hj, Hl.out j hj]
        by_cases e1 : 56 = j
        · subst e1; rw [if_pos (by omega), if_pos rfl]
        · rw [if_neg e1]
          by_cases e2 : 56 ≤ j ∧ j < 56 + 0
          · rw [if_pos e2, if_pos (by omega)]
          · rw [if_neg e2, if_neg (by omega)]
    · have c1 := hA.cell 57 (by omega)
      have f1 := hA.free 57
      have Hn := Lib.hid (fun (v : Nat) l' => hA.set (i := 57) (by omega) v l')
      have Hl := Lib.hid hl
      have HS3 := Lib.hid (fun v => hS2.other ⟨w.heap.size, 57, none⟩ v (by show sb ≠ w.heap.size; omega))
      have HB3 := Lib.hid (fun v => hB.setCell (p := ⟨w.heap.size, 57, none⟩) (by show base ≤ w.heap.size; omega) v)
      clear hA hl hS2 hB
      go_wp2_with fail
      go_roundg (gk - 1)
      case measure => omega
      case rel =>
        refine ⟨1 + 1, by omega, by go_num, ⟨_, ?_, fun j hj => getD_range (fun j => if 56 ≤ j ∧ j < 56 + (1 + 1) then cb m (j - 56) else ZZ.getD j 0) 64 j hj⟩, HS3.out _, HB3.out _⟩
        have e : (m : Int) / 281474976710656 % 256 = ((cb m 1 : Nat) : Int) := by unfold cb; omega
        rw [e]
        refine Hn.out _ _ fun j hj => ?_
        rw [getD_range _ 64 j hj, Hl.out j hj]
        by_cases e1 : 57 = j
        · subst e1; rw [if_pos (by omega), if_pos rfl]
        · rw [if_neg e1]
          by_cases e2 : 56 ≤ j ∧ j < 56 + 1
          · rw [if_pos e2, if_pos (by omega)]
          · rw [if_neg e2, if_neg (by omega)]
    · have c1 := hA.cell 58 (by omega)
      have f1 := hA.free 58
      have Hn := Lib.hid (fun (v : Nat) l' => hA.set (i := 58) (by omega) v l')
      have Hl := Lib.hid hl
      have HS3 := Lib.hid (fun v => hS2.other ⟨w.heap.size, 58, none⟩ v (by show sb ≠ w.heap.size; omega))
      have HB3 := Lib.hid (fun v => hB.setCell (p := ⟨w.heap.size, 58, none⟩) (by show base ≤ w.heap.size; omega) v)
      clear hA hl hS2 hB
      go_wp2_with fail
      go_roundg (gk - 1)
      case measure => omega
      case rel =>
        refine ⟨2 + 1, by omega, by go_num, ⟨_, ?_, fun j hj => getD_range (fun j => if 56 ≤ j ∧ j < 56 + (2 + 1) then cb m (j - 56) else ZZ.getD j 0) 64 j hj⟩, HS3.out _, HB3.out _⟩
        have e : (m : Int) / 1099511627776 % 256 = ((cb m 2 : Nat) : Int) := by unfold cb; omega
        rw [e]
        refine Hn.out _ _ fun j hj => ?_
        rw [getD_range _ 64 j hj, Hl.out j hj]
        by_cases e1 : 58 = j
        · subst e1; rw [if_pos (by omega), if_pos rfl]
        · rw [if_neg e1]
          by_cases e2 : 56 ≤ j ∧ j < 56 + 2
          · rw [if_pos e2, if_pos (by omega)]
          · rw [if_neg e2, if_neg (by omega)]
    · have c1 := hA.cell 59 (by omega)
      have f1 := hA.free 59
      have Hn := Lib.hid (fun (v : Nat) l' => hA.set (i := 59) (by omega) v l')
      have Hl := Lib.hid hl
      have HS3 := Lib.hid (fun v => hS2.other ⟨w.heap.size, 59, none⟩ v (by show sb ≠ w.heap.size; omega))
      have HB3 := Lib.hid (fun v => hB.setCell (p := ⟨w.heap.size, 59, none⟩) (by show base ≤ w.heap.size; omega) v)
      clear hA hl hS2 hB
      go_wp2_with fail
      go_roundg (gk - 1)
      case measure => omega
      case rel =>
        refine ⟨3 + 1, by omega, by go_num, ⟨_, ?_, fun j hj => getD_range (fun j => if 56 ≤ j ∧ j < 56 + (3 + 1) then cb m (j - 56) else ZZ.getD j 0) 64 j hj⟩, HS3.out _, HB3.out _⟩
        have e : (m : Int) / 4294967296 % 256 = ((cb m 3 : Nat) : Int) := by unfold cb; omega
        rw [e]
        refine Hn.out _ _ fun j hj => ?_
        rw [getD_range _ 64 j hj, Hl.out j hj]
        by_cases e1 : 59 = j
        · subst e1; rw [if_pos (by omega), if_pos rfl]
        · rw [if_neg e1]
          by_cases e2 : 56 ≤ j ∧ j < 56 + 3
          · rw [if_pos e2, if_pos (by omega)]
          · rw [if_neg e2, if_neg (by omega)]
    · have c1 := hA.cell 60 (by omega)
      have f1 := hA.free 60
      have Hn := Lib.hid (fun (v : Nat) l' => hA.set (i := 60) (by omega) v l')
      have Hl := Lib.hid hl
      have HS3 := Lib.hid (fun v => hS2.other ⟨w.heap.size, 60, none⟩ v (by show sb ≠ w.heap.size; omega))
      have HB3 := Lib.hid (fun v => hB.setCell (p := ⟨w.heap.size, 60, none⟩) (by show base ≤ w.heap.size; omega) v)
      clear hA hl hS2 hB
      go_wp2_with fail
      go_roundg (gk - 1)
      case measure => omega
      case rel =>
        refine ⟨4 + 1, by omega, by go_num, ⟨_, ?_, fun j hj => getD_range (fun j => if 56 ≤ j ∧ j < 56 + (4 + 1) then cb m (j - 56) else ZZ.getD j 0) 64 j hj⟩, HS3.out _, HB3.out _⟩
        have e : (m : Int) / 16777216 % 256 = ((cb m 4 : Nat) : Int) := by unfold cb; omega
        rw [e]
        refine Hn.out _ _ fun j hj => ?_
        rw [getD_range _ 64 j hj, Hl.out j hj]
        by_cases e1 : 60 = j
        · subst e1; rw [if_pos (by omega), if_pos rfl]
        · rw [if_neg e1]
          by_cases e2 : 56 ≤ j ∧ j < 56 + 4
          · rw [if_pos e2, if_pos (by omega)]
          · rw [if_neg e2, if_neg (by omega)]
    · have c1 := hA.cell 61 (by omega)
      have f1 := hA.free 61
      have Hn := Lib.hid (fun (v : Nat) l' => hA.set (i := 61) (by omega) v l')
      have Hl := Lib.hid hl
      have HS3 := Lib.hid (fun v => hS2.other ⟨w.heap.size, 61, none⟩ v (by show sb ≠ w.heap.size; omega))
      have HB3 := Lib.hid (fun v => hB.setCell (p := ⟨w.heap.size, 61, none⟩) (by show base ≤ w.heap.size; omega) v)
      clear hA hl hS2 hB
      go_wp2_with fail
      go_roundg (gk - 1)
      case measure => omega
      case rel =>
        refine ⟨5 + 1, by omega, by go_num, ⟨_, ?_, fun j hj => getD_range (fun j => if 56 ≤ j ∧ j < 56 + (5 + 1) then cb m (j - 56) else ZZ.getD j 0) 64 j hj⟩, HS3.out _, HB3.out _⟩
        have e : (m : Int) / 65536 % 256 = ((cb m 5 : Nat) : Int) := by unfold cb; omega
        rw [e]
        refine Hn.out _ _ fun j hj => ?_
        rw [getD_range _ 64 j hj, Hl.out j hj]
        by_cases e1 : 61 = j
        · subst e1; rw [if_pos (by omega), if_pos rfl]
        · rw [if_neg e1]
          by_cases e2 : 56 ≤ j ∧ j < 56 + 5
          · rw [if_pos e2, if_pos (by omega)]
          · rw [if_neg e2, if_neg (by omega)]
    · have c1 := hA.cell 62 (by omega)
      have f1 := hA.free 62
      have Hn := Lib.hid (fun (v : Nat) l' => hA.set (i := 62) (by omega) v l')
      have Hl := Lib.hid hl
      have HS3 := Lib.hid (fun v => hS2.other ⟨w.heap.size, 62, none⟩ v (by show sb ≠ w.heap.size; omega))
      have HB3 := Lib.hid (fun v => hB.setCell (p := ⟨w.heap.size, 62, none⟩) (by show base ≤ w.heap.size; omega) v)
      clear hA hl hS2 hB
      go_wp2_with fail
      go_roundg (gk - 1)
      case measure => omega
      case rel =>
        refine ⟨6 + 1, by omega, by go_num, ⟨_, ?_, fun j hj => getD_range (fun j => if 56 ≤ j ∧ j < 56 + (6 + 1) then cb m (j - 56) else ZZ.getD j 0) 64 j hj⟩, HS3.out _, HB3.out _⟩
        have e : (m : Int) / 256 % 256 = ((cb m 6 : Nat) : Int) := by unfold cb; omega
        rw [e]
        refine Hn.out _ _ fun j hj => ?_
        rw [getD_range _ 64 j hj, Hl.out j hj]
        by_cases e1 : 62 = j
        · subst e1; rw [if_pos (by omega), if_pos rfl]
        · rw [if_neg e1]
          by_cases e2 : 56 ≤ j ∧ j < 56 + 6
          · rw [if_pos e2, if_pos (by omega)]
          · rw [if_neg e2, if_neg (by omega)]
    · have c1 := hA.cell 63 (by omega)
      have f1 := hA.free 63
      have Hn := Lib.hid (fun (v : Nat) l' => hA.set (i := 63) (by omega) v l')
      have Hl := Lib.hid hl
      have HS3 := Lib.hid (fun v => hS2.other ⟨w.heap.size, 63, none⟩ v (by show sb ≠ w.heap.size; omega))
      have HB3 := Lib.hid (fun v => hB.setCell (p := ⟨w.heap.size, 63, none⟩) (by show base ≤ w.heap.size; omega) v)
      clear hA hl hS2 hB
      go_wp2_with fail
      go_roundg (gk - 1)
      case measure => omega
      case rel =>
        refine ⟨7 + 1, by omega, by go_num, ⟨_, ?_, fun j hj => getD_range (fun j => if 56 ≤ j ∧ j < 56 + (7 + 1) then cb m (j - 56) else ZZ.getD j 0) 64 j hj⟩, HS3.out _, HB3.out _⟩
        have e : (m : Int) % 256 = ((cb m 7 : Nat) : Int) := by unfold cb; omega
        rw [e]
        refine Hn.out _ _ fun j hj => ?_
        rw [getD_range _ 64 j hj, Hl.out j hj]
        by_cases e1 : 63 = j
        · subst e1; rw [if_pos (by omega), if_pos rfl]
        · rw [if_neg e1]
          by_cases e2 : 56 ≤ j ∧ j < 56 + 7
          · rw [if_pos e2, if_pos (by omega)]
          · rw [if_neg e2, if_neg (by omega)]
    · have hA2 : Arr wr w.heap.size 42 64 .u8 (fin ZZ m) := hA.congr fun j hj => by
        rw [hl j hj, fin, getD_range _ 64 j hj]
        by_cases e : j < 56
        · rw [if_pos e, if_neg (by omega)]
        · rw [if_neg e, if_pos (by omega)]
      have HT := Lib.hid (take_any (fin ZZ m) SS base sb w.heap.size 42 wr hA2 hS2 (by omega) (fin_small ZZ m hZs) hSo (hK.below (by omega) hB) hb0 hbase)
      have HBl := Lib.hid hB
      clear hA hA2 hl hS2 hB
      go_wp2_with fail
      refine HT.out.mono ?_
      rintro r2 w9 ⟨rfl, h1, h2, h3⟩
      have H1 := Lib.hid h1
      have H3 := Lib.hid h3
      clear h1 h2 h3
      go_wp2_with fail
      refine bodyPost_end (v := .tuple #[]) (by simp [results, Tryd.results17]) rfl ⟨rfl, HBl.out.trans H1.out, ?_⟩
      rw [HFin.out]
      exact H3.out
end Go.Proofs.YtbenegkhekofmaaDoor
