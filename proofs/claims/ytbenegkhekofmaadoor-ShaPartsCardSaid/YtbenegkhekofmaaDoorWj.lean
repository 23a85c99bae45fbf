/- Walks: what is left of a text is taken in, where it fills the block. -/
import Derived.Test.YtbenegkhekofmaaDoorWi
namespace Go.Proofs.YtbenegkhekofmaaDoor
set_option linter.unusedVariables false
open Go.ChangeShapes Go.WideShapes Go.ChangeAt Go.RowKit

set_option maxRecDepth 100000 in
set_option maxHeartbeats 1000000 in
theorem end_hi (s : ByteArray) (S : St) (base sb sz m : Nat) (w : World) (hS : Arr w sb 41 8 .u32 S.list) (hok : S.ok) (hK : KeysAt w) (hb0 : 0 < base) (hbase : base ≤ sb) (hsz : 56 ≤ s.size) (hs64 : s.size < 64) (hm : m = sz * 8) (hm2 : sz < 1152921504606846976) :
    Calls Tryd.prog 17 #[.pointer (some ⟨sb, 0, none⟩), .string s, .int .i64 sz] w fun e w' => e = .returned (.tuple #[]) ∧ Below base w w' ∧ Arr w' sb 41 8 .u32 (S.last (bytesL s) m).list := by
  have hsb := hS.lt
  have hsl := fun w1 => slice42all w1 w.heap.size
  obtain ⟨r, hr⟩ : ∃ r, r = bytesL s := ⟨_, rfl⟩
  have hrl : r.length = s.size := by rw [hr, bytesL_len]
  have hrs : Small 256 r := hr ▸ bytesL_small s
  have hf := St.last_hi S r m (by omega)
  rw [← hr]
  obtain ⟨w1, hw1⟩ : ∃ w1, w1 = (w.alloc (.cells #[.int .u8 0, .int .u8 0, .int .u8 0, .int .u8 0, .int .u8 0, .int .u8 0, .int .u8 0, .int .u8 0, .int .u8 0, .int .u8 0, .int .u8 0, .int .u8 0, .int .u8 0, .int .u8 0, .int .u8 0, .int .u8 0, .int .u8 0, .int .u8 0, .int .u8 0, .int .u8 0, .int .u8 0, .int .u8 0, .int .u8 0, .int .u8 0, .int .u8 0, .int .u8 0, .int .u8 0, .int .u8 0, .int .u8 0, .int .u8 0, .int .u8 0, .int .u8 0, .int .u8 0, .int .u8 0, .int .u8 0, .int .u8 0, .int .u8 0, .int .u8 0, .int .u8 0, .int .u8 0, .int .u8 0, .int .u8 0, .int .u8 0, .int .u8 0, .int .u8 0, .int .u8 0, .int .u8 0, .int .u8 0, .int .u8 0, .int .u8 0, .int .u8 0, .int .u8 0, .int .u8 0, .int .u8 0, .int .u8 0, .int .u8 0, .int .u8 0, .int .u8 0, .int .u8 0, .int .u8 0, .int .u8 0, .int .u8 0, .int .u8 0, .int .u8 0] 42)).setRow w.heap.size (ints .u8 (over r [])) := ⟨_, rfl⟩
  have hcp : ∀ ty, (Builtin.copy_ #[27, 9] ty #[.slice (some ⟨w.heap.size, 0, none⟩) 64 64, .string s]).run Tryd.prog (w.alloc (.cells #[.int .u8 0, .int .u8 0, .int .u8 0, .int .u8 0, .int .u8 0, .int .u8 0, .int .u8 0, .int .u8 0, .int .u8 0, .int .u8 0, .int .u8 0, .int .u8 0, .int .u8 0, .int .u8 0, .int .u8 0, .int .u8 0, .int .u8 0, .int .u8 0, .int .u8 0, .int .u8 0, .int .u8 0, .int .u8 0, .int .u8 0, .int .u8 0, .int .u8 0, .int .u8 0, .int .u8 0, .int .u8 0, .int .u8 0, .int .u8 0, .int .u8 0, .int .u8 0, .int .u8 0, .int .u8 0, .int .u8 0, .int .u8 0, .int .u8 0, .int .u8 0, .int .u8 0, .int .u8 0, .int .u8 0, .int .u8 0, .int .u8 0, .int .u8 0, .int .u8 0, .int .u8 0, .int .u8 0, .int .u8 0, .int .u8 0, .int .u8 0, .int .u8 0, .int .u8 0, .int .u8 0, .int .u8 0, .int .u8 0, .int .u8 0, .int .u8 0, .int .u8 0, .int .u8 0, .int .u8 0, .int .u8 0, .int .u8 0, .int .u8 0, .int .u8 0] 42)) = .ok (.int .i64 (s.size : Int)) w1 := fun ty => by
    have h := copy_arr (w.alloc (.cells #[.int .u8 0, .int .u8 0, .int .u8 0, .int .u8 0, .int .u8 0, .int .u8 0, .int .u8 0, .int .u8 0, .int .u8 0, .int .u8 0, .int .u8 0, .int .u8 0, .int .u8 0, .int .u8 0, .int .u8 0, .int .u8 0, .int .u8 0, .int .u8 0, .int .u8 0, .int .u8 0, .int .u8 0, .int .u8 0, .int .u8 0, .int .u8 0, .int .u8 0, .int .u8 0, .int .u8 0, .int .u8 0, .int .u8 0, .int .u8 0, .int .u8 0, .int .u8 0, .int .u8 0, .int .u8 0, .int .u8 0, .int .u8 0, .int .u8 0, .int .u8 0, .int .u8 0, .int .u8 0, .int .u8 0, .int .u8 0, .int .u8 0, .int .u8 0, .int .u8 0, .int .u8 0, .int .u8 0, .int .u8 0, .int .u8 0, .int .u8 0, .int .u8 0, .int .u8 0, .int .u8 0, .int .u8 0, .int .u8 0, .int .u8 0, .int .u8 0, .int .u8 0, .int .u8 0, .int .u8 0, .int .u8 0, .int .u8 0, .int .u8 0, .int .u8 0] 42)) w.heap.size [] s ty (arr_zero (heap_alloc_new w _) rfl)
    rw [Nat.min_eq_left (by omega), ← hr, List.take_of_length_le (by omega), ← hw1] at h
    exact h
  have hA1 : Arr w1 w.heap.size 42 64 .u8 (over r []) := by
    rw [hw1]
    exact arr_ints (setRow_heap _ _ _ _ _ _ (heap_alloc_new w _)) (over_len _ _)
  have hB1 : Below w.heap.size w w1 := by
    rw [hw1]
    exact below_setRow ((Below.refl _ _).alloc (Nat.le_refl _) _) (Nat.le_refl _) _
  clear hw1
  have c1 := hA1.cell s.size (by omega)
  have f1 := hA1.free s.size
  obtain ⟨Z1, hZ1⟩ : ∃ Z1, Z1 = over (r ++ [128]) [] := ⟨_, rfl⟩
  have hA2 := hA1.set (i := s.size) (by omega) 128 Z1 (fun j hj => by
    rw [hZ1, over_get _ _ j hj, over_get _ _ j hj, List.length_append, List.length_cons, List.length_nil, getD_snoc, hrl]
    by_cases e : s.size = j
    · rw [if_pos e, if_pos (by omega), if_pos e]
    · rw [if_neg e, if_neg e]
      by_cases e2 : j < s.size
      · rw [if_pos (by omega), if_pos e2]
      · rw [if_neg (by omega), if_neg e2])
  have hZ1s : Small 256 Z1 := hZ1 ▸ over_small (hrs.snoc (by decide)) nil_small
  have hSt := (hS.below hB1).other ⟨w.heap.size, s.size, none⟩ (.int .u8 128) (by show sb ≠ w.heap.size; omega)
  have hBe := (hB1.mono (by omega : base ≤ w.heap.size)).setCell (p := ⟨w.heap.size, s.size, none⟩) (by show base ≤ w.heap.size; omega) (.int .u8 128)
  have HT0 := Lib.hid (take_any Z1 S base sb w.heap.size 42 _ hA2 hSt (by omega) hZ1s hok (hK.below hb0 hBe) hb0 hbase)
  have HA2 := Lib.hid hA2
  have HBe0 := Lib.hid hBe
  rw [← hZ1] at hf
  obtain ⟨SS, hSS⟩ : ∃ SS, SS = S.block Z1 := ⟨_, rfl⟩
  have hSo : SS.ok := hSS ▸ St.block_ok _ _
  obtain ⟨ZZ, hZZ⟩ : ∃ ZZ : List Nat, ZZ = [] := ⟨_, rfl⟩
  have hZs : Small 256 ZZ := hZZ ▸ nil_small
  have hf2 : S.last r m = SS.block (fin ZZ m) := by rw [hf, hSS, hZZ]
  have HFin := Lib.hid hf2
  rw [← hSS] at HT0
  clear hf hf2 hA1 hB1 hA2 hS hok hSS hZ1 hr hrs hrl hSt hBe
  have HZZ := Lib.hid hZZ
  clear hZZ
  have hmI : (sz : Int) * 8 = (m : Int) := by omega
  have hmb : m < 9223372036854775808 := by omega
  clear hm
  have hhi : ¬ (s.size : Int) < 56 := by omega
  have hhi2 : (56 : Int) ≤ (s.size : Int) := by omega
  go_enter Tryd.func17, Tryd.ntmps17
  go_wp2_with fail
  refine HT0.out.mono ?_
  rintro r1 w3 ⟨rfl, hB3, hBut3, hS3⟩
  have hA3 : Arr w3 w.heap.size 42 64 .u8 Z1 := HA2.out.heap (hBut3 _ HA2.out.lt (by omega))
  obtain ⟨w4, hcl, hA4, hsz4, hB4, hk4⟩ := clear_arr w3 w.heap.size Z1 0 hA3
  have hsz3 := hB3.size
  have hs0 : w.heap.size ≤ w3.heap.size := Nat.le_of_lt hA3.lt
  have HSt := Lib.hid (hS3.heap (hk4 sb (by omega)))
  have HBe := Lib.hid ((HBe0.out.trans hB3).trans (hB4 base (by omega)))
  have HZ0 := Lib.hid ((HZZ.out ▸ hA4) : Arr w4 w.heap.size 42 64 .u8 ZZ)
  clear hB3 hBut3 hS3 hA3 hA4 hB4 hk4 hsz3 hs0
  go_wp2_with fail
  go_loopg [23] 8 (fun g iv wr => ∃ i : Nat, i + g = 8 ∧ iv = .int .i64 i ∧ (∃ l, Arr wr w.heap.size 42 64 .u8 l ∧ ∀ j, j < 64 → l.getD j 0 = if 56 ≤ j ∧ j < 56 + i then cb m (j - 56) else ZZ.getD j 0) ∧ Arr wr sb 41 8 .u32 SS.list ∧ Below base w wr)
  case atStart => exact ⟨0, by omega, rfl, ⟨ZZ, HZ0.out, fun j hj => by rw [if_neg (by omega)]⟩, HSt.out, HBe.out⟩
  case round =>
    obtain ⟨i, hig, rfl, ⟨l, hA, hl⟩, hS2, hB⟩ := hrel
    have hi : i = 0 ∨ i = 1 ∨ i = 2 ∨ i = 3 ∨ i = 4 ∨ i = 5 ∨ i = 6 ∨ i = 7 ∨ i = 8 := by omega
    rcases hi with rfl | rfl | rfl | rfl | rfl | rfl | rfl | rfl | rfl
    · have c1 := hA.cell 56 (by omega)
      have f1 := hA.free 56
      have Hn := Lib.hid (fun (v : Nat) l' => hA.set (i := 56) (by omega) v l')
      have Hl := Lib.hid hl
      have HS3 := Lib.hid (fun v => hS2.other ⟨w.heap.size, 56, none⟩ v (by show sb ≠ w.heap.size; omega))
      have HB3 := Lib.hid (fun v => hB.setCell (p := ⟨w.heap.size, 56, none⟩) (by show base ≤ w.heap.size; omega) v)
      clear hA hl hS2 hB
      go_wp2_with fail
      go_roundg (gk - 1)
      case measure => omega
      case rel =>
        refine ⟨0 + 1, by omega, by go_num, ⟨_, ?_, fun j hj => getD_range (fun j => if 56 ≤ j ∧ j < 56 + (0 + 1) then cb m (j - 56) else ZZ.getD j 0) 64 j hj⟩, HS3.out _, HB3.out _⟩
        have e : (m : Int) / 72057594037927936 = ((cb m 0 : Nat) : Int) := by unfold cb; omega
        rw [e]
        refine Hn.out _ _ fun j hj => ?_
        rw [getD_range _ 64 j hj, Hl.out j hj]
        by_cases e1 : 56 = j
        · subst e1; rw [if_pos (by omega), if_pos rfl]
        · rw [if_neg e1]
          by_cases e2 : 56 ≤ j ∧ j < 56 + 0
          · rw [if_pos e2, if_pos (by omega)]
          · rw [if_neg e2, if_neg (by omega)]
    · have c1 := hA.cell 57 (by omega)
      have f1 := hA.free 57
      have Hn := Lib.hid (fun (v : Nat) l' => hA.set (i := 57) (by omega) v l')
      have Hl := Lib.hid hl
      have HS3 := Lib.hid (fun v => hS2.other ⟨w.heap.size, 57, none⟩ v (by show sb ≠ w.heap.size; omega))
      have HB3 := Lib.hid (fun v => hB.setCell (p := ⟨w.heap.size, 57, none⟩) (by show base ≤ w.heap.size; omega) v)
      clear hA hl hS2 hB
      go_wp2_with fail
      go_roundg (gk - 1)
      case measure => omega
      case rel =>
        refine ⟨1 + 1, by omega, by go_num, ⟨_, ?_, fun j hj => getD_range (fun j => if 56 ≤ j ∧ j < 56 + (1 + 1) then cb m (j - 56) else ZZ.getD j 0) 64 j hj⟩, HS3.out _, HB3.out _⟩
        have e : (m : Int) / 281474976710656 % 256 = ((cb m 1 : Nat) : Int) := by unfold cb; omega
        rw [e]
        refine Hn.out _ _ fun j hj => ?_
        rw [getD_range _ 64 j hj, Hl.out j hj]
        by_cases e1 : 57 = j
        · subst e1; rw [if_pos (by omega), if_pos rfl]
        · rw [if_neg e1]
          by_cases e2 : 56 ≤ j ∧ j < 56 + 1
          · rw [if_pos e2, if_pos (by omega)]
          · rw [if_neg e2, if_neg (by omega)]
    · have c1 := hA.cell 58 (by omega)
      have f1 := hA.free 58
      have Hn := Lib.hid (fun (v : Nat) l' => hA.set (i := 58) (by omega) v l')
      have Hl := Lib.hid hl
      have HS3 := Lib.hid (fun v => hS2.other ⟨w.heap.size, 58, none⟩ v (by show sb ≠ w.heap.size; omega))
      have HB3 := Lib.hid (fun v => hB.setCell (p := ⟨w.heap.size, 58, none⟩) (by show base ≤ w.heap.size; omega) v)
      clear hA hl hS2 hB
      go_wp2_with fail
      go_roundg (gk - 1)
      case measure => omega
      case rel =>
        refine ⟨2 + 1, by omega, by go_num, ⟨_, ?_, fun j hj => getD_range (fun j => if 56 ≤ j ∧ j < 56 + (2 + 1) then cb m (j - 56) else ZZ.getD j 0) 64 j hj⟩, HS3.out _, HB3.out _⟩
        have e : (m : Int) / 1099511627776 % 256 = ((cb m 2 : Nat) : Int) := by unfold cb; omega
        rw [e]
        refine Hn.out _ _ fun j hj => ?_
        rw [getD_range _ 64 j hj, Hl.out j hj]
        by_cases e1 : 58 = j
        · subst e1; rw [if_pos (by omega), if_pos rfl]
        · rw [if_neg e1]
          by_cases e2 : 56 ≤ j ∧ j < 56 + 2
          · rw [if_pos e2, if_pos (by omega)]
          · rw [if_neg e2, if_neg (by omega)]
    · have c1 := hA.cell 59 (by omega)
      have f1 := hA.free 59
      have Hn := Lib.hid (fun (v : Nat) l' => hA.set (i := 59) (by omega) v l')
      have Hl := Lib.hid hl
      have HS3 := Lib.hid (fun v => hS2.other ⟨w.heap.size, 59, none⟩ v (by show sb ≠ w.heap.size; omega))
      have HB3 := Lib.hid (fun v => hB.setCell (p := ⟨w.heap.size, 59, none⟩) (by show base ≤ w.heap.size; omega) v)
      clear hA hl hS2 hB
      go_wp2_with fail
      go_roundg (gk - 1)
      case measure => omega
      case rel =>
        refine ⟨3 + 1, by omega, by go_num, ⟨_, ?_, fun j hj => getD_range (fun j => if 56 ≤ j ∧ j < 56 + (3 + 1) then cb m (j - 56) else ZZ.getD j 0) 64 j hj⟩, HS3.out _, HB3.out _⟩
        have e : (m : Int) / 4294967296 % 256 = ((cb m 3 : Nat) : Int) := by unfold cb; omega
        rw [e]
        refine Hn.out _ _ fun j hj => ?_
        rw [getD_range _ 64 j hj, Hl.out j hj]
        by_cases e1 : 59 = j
        · subst e1; rw [if_pos (by omega), if_pos rfl]
        · rw [if_neg e1]
          by_cases e2 : 56 ≤ j ∧ j < 56 + 3
          · rw [if_pos e2, if_pos (by omega)]
          · rw [if_neg e2, if_neg (by omega)]
    · have c1 := hA.cell 60 (by omega)
      have f1 := hA.free 60
      have Hn := Lib.hid (fun (v : Nat) l' => hA.set (i := 60) (by omega) v l')
      have Hl := Lib.hid hl
      have HS3 := Lib.hid (fun v => hS2.other ⟨w.heap.size, 60, none⟩ v (by show sb ≠ w.heap.size; omega))
      have HB3 := Lib.hid (fun v => hB.setCell (p := ⟨w.heap.size, 60, none⟩) (by show base ≤ w.heap.size; omega) v)
      clear hA hl hS2 hB
      go_wp2_with fail
      go_roundg (gk - 1)
      case measure => omega
      case rel =>
        refine ⟨4 + 1, by omega, by go_num, ⟨_, ?_, fun j hj => getD_range (fun j => if 56 ≤ j ∧ j < 56 + (4 + 1) then cb m (j - 56) else ZZ.getD j 0) 64 j hj⟩, HS3.out _, HB3.out _⟩
        have e : (m : Int) / 16777216 % 256 = ((cb m 4 : Nat) : Int) := by unfold cb; omega
        rw [e]
        refine Hn.out _ _ fun j hj => ?_
        rw [getD_range _ 64 j hj, Hl.out j hj]
        by_cases e1 : 60 = j
        · subst e1; rw [if_pos (by omega), if_pos rfl]
        · rw [if_neg e1]
          by_cases e2 : 56 ≤ j ∧ j < 56 + 4
          · rw [if_pos e2, if_pos (by omega)]
          · rw [if_neg e2, if_neg (by omega)]
    · have c1 := hA.cell 61 (by omega)
      have f1 := hA.free 61
      have Hn := Lib.hid (fun (v : Nat) l' => hA.set (i := 61) (by omega) v l')
      have Hl := Lib.hid hl
      have HS3 := Lib.hid (fun v => hS2.other ⟨w.heap.size, 61, none⟩ v (by show sb ≠ w.heap.size; omega))
      have HB3 := Lib.hid (fun v => hB.setCell (p := ⟨w.heap.size, 61, none⟩) (by show base ≤ w.heap.size; omega) v)
      clear hA hl hS2 hB
      go_wp2_with fail
      go_roundg (gk - 1)
      case measure => omega
      case rel =>
        refine ⟨5 + 1, by omega, by go_num, ⟨_, ?_, fun j hj => getD_range (fun j => if 56 ≤ j ∧ j < 56 + (5 + 1) then cb m (j - 56) else ZZ.getD j 0) 64 j hj⟩, HS3.out _, HB3.out _⟩
        have e : (m : Int) / 65536 % 256 = ((cb m 5 : Nat) : Int) := by unfold cb; omega
        rw [e]
        refine Hn.out _ _ fun j hj => ?_
        rw [getD_range _ 64 j hj, Hl.out j hj]
        by_cases e1 : 61 = j
        · subst e1; rw [if_pos (by omega), if_pos rfl]
        · rw [if_neg e1]
          by_cases e2 : 56 ≤ j ∧ j < 56 + 5
          · rw [if_pos e2, if_pos (by omega)]
          · rw [if_neg e2, if_neg (by omega)]
    · have c1 := hA.cell 62 (by omega)
      have f1 := hA.free 62
      have Hn := Lib.hid (fun (v : Nat) l' => hA.set (i := 62) (by omega) v l')
      have Hl := Lib.hid hl
      have HS3 := Lib.hid (fun v => hS2.other ⟨w.heap.size, 62, none⟩ v (by show sb ≠ w.heap.size; omega))
      have HB3 := Lib.hid (fun v => hB.setCell (p := ⟨w.heap.size, 62, none⟩) (by show base ≤ w.heap.size; omega) v)
      clear hA hl hS2 hB
      go_wp2_with fail
      go_roundg (gk - 1)
      case measure => omega
      case rel =>
        refine ⟨6 + 1, by omega, by go_num, ⟨_, ?_, fun j hj => getD_range (fun j => if 56 ≤ j ∧ j < 56 + (6 + 1) then cb m (j - 56) else ZZ.getD j 0) 64 j hj⟩, HS3.out _, HB3.out _⟩
        have e : (m : Int) / 256 % 256 = ((cb m 6 : Nat) : Int) := by unfold cb; omega
        rw [e]
        refine Hn.out _ _ fun j hj => ?_
        rw [getD_range _ 64 j hj, Hl.out j hj]
        by_cases e1 : 62 = j
        · subst e1; rw [if_pos (by omega), if_pos rfl]
        · rw [if_neg e1]
          by_cases e2 : 56 ≤ j ∧ j < 56 + 6
          · rw [if_pos e2, if_pos (by omega)]
          · rw [if_neg e2, if_neg (by omega)]
    · have c1 := hA.cell 63 (by omega)
      have f1 := hA.free 63
      have Hn := Lib.hid (fun (v : Nat) l' => hA.set (i := 63) (by omega) v l')
      have Hl := Lib.hid hl
      have HS3 := Lib.hid (fun v => hS2.other ⟨w.heap.size, 63, none⟩ v (by show sb ≠ w.heap.size; omega))
      have HB3 := Lib.hid (fun v => hB.setCell (p := ⟨w.heap.size, 63, none⟩) (by show base ≤ w.heap.size; omega) v)
      clear hA hl hS2 hB
      go_wp2_with fail
      go_roundg (gk - 1)
      case measure => omega
      case rel =>
        refine ⟨7 + 1, by omega, by go_num, ⟨_, ?_, fun j hj => getD_range (fun j => if 56 ≤ j ∧ j < 56 + (7 + 1) then cb m (j - 56) else ZZ.getD j 0) 64 j hj⟩, HS3.out _, HB3.out _⟩
        have e : (m : Int) % 256 = ((cb m 7 : Nat) : Int) := by unfold cb; omega
        rw [e]
        refine Hn.out _ _ fun j hj => ?_
        rw [getD_range _ 64 j hj, Hl.out j hj]
        by_cases e1 : 63 = j
        · subst e1; rw [if_pos (by omega), if_pos rfl]
        · rw [if_neg e1]
          by_cases e2 : 56 ≤ j ∧ j < 56 + 7
          · rw [if_pos e2, if_pos (by omega)]
          · rw [if_neg e2, if_neg (by omega)]
    · have hA2 : Arr wr w.heap.size 42 64 .u8 (fin ZZ m) := hA.congr fun j hj => by
        rw [hl j hj, fin, getD_range _ 64 j hj]
        by_cases e : j < 56
        · rw [if_pos e, if_neg (by omega)]
        · rw [if_neg e, if_pos (by omega)]
      have HT := Lib.hid (take_any (fin ZZ m) SS base sb w.heap.size 42 wr hA2 hS2 (by omega) (fin_small ZZ m hZs) hSo (hK.below (by omega) hB) hb0 hbase)
      have HBl := Lib.hid hB
      clear hA hA2 hl hS2 hB
      go_wp2_with fail
      refine HT.out.mono ?_
      rintro r2 w9 ⟨rfl, h1, h2, h3⟩
      have H1 := Lib.hid h1
      have H3 := Lib.hid h3
      clear h1 h2 h3
      go_wp2_with fail
      refine bodyPost_end (v := .tuple #[]) (by simp [results, Tryd.results17]) rfl ⟨rfl, HBl.out.trans H1.out, ?_⟩
      rw [HFin.out]
      exact H3.out
end Go.Proofs.YtbenegkhekofmaaDoor
