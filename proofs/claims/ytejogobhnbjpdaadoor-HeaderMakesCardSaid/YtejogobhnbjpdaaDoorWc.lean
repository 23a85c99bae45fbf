/- Walks: UtfEnds; a sign's bytes. -/
import Derived.Test.YtejogobhnbjpdaaDoorWa
import Derived.Lib.SlBytesRow
namespace Go.Proofs.YtejogobhnbjpdaaDoor
set_option linter.unusedVariables false
open Go.ChangeShapes Go.WideShapes Go.ChangeAt Go.RowKit

theorem tabs_below {w w' : World} (h : Lib.Utf8Tabs 1 2 w) (hB : Below w.heap.size w w') : Lib.Utf8Tabs 1 2 w' := by
  have b0 := World.block_lt_of_cell? w _ (h.1 0 (by omega))
  have b1 := World.block_lt_of_cell? w _ (h.2 0 (by omega)).1
  exact ⟨fun c hc => by rw [hB.cell (p := ⟨1, c, none⟩) b0]; exact h.1 c hc, fun i hi => ⟨by rw [hB.cell (p := ⟨2, 2 * i, none⟩) b1]; exact (h.2 i hi).1, by rw [hB.cell (p := ⟨2, 2 * i + 1, none⟩) b1]; exact (h.2 i hi).2⟩⟩

theorem decodeN_range (n b0 b1 b2 b3 : Nat) (h : 1 ≤ n) : 1 ≤ (Lib.decodeN n b0 b1 b2 b3).2 ∧ (Lib.decodeN n b0 b1 b2 b3).2 ≤ n := by
  unfold Lib.decodeN
  repeat' split
  all_goals (simp only; omega)

theorem runeAt_range (s : ByteArray) (i : Nat) (hi : i < s.size) : 1 ≤ (runeAt s i).2 ∧ i + (runeAt s i).2 ≤ s.size := by
  have h := decodeN_range (s.size - i) (s.get! i).toNat (s.get! (i + 1)).toNat (s.get! (i + 2)).toNat (s.get! (i + 3)).toNat (by omega)
  have e : (dec s i).2 = (Lib.decodeN (s.size - i) (s.get! i).toNat (s.get! (i + 1)).toNat (s.get! (i + 2)).toNat (s.get! (i + 3)).toNat).2 := rfl
  unfold runeAt runeV
  rw [← e] at h
  repeat' split
  all_goals (simp only; omega)

/-- A sign's bytes, as numbers. -/
def encI (r : Nat) : List Int :=
  if r < 128 then [(r : Int)]
  else if r < 2048 then [192 + (r : Int) / 64, 128 + (r : Int) % 64]
  else if r < 65536 then [224 + (r : Int) / 4096, 128 + (r : Int) / 64 % 64, 128 + (r : Int) % 64]
  else [240 + (r : Int) / 262144, 128 + (r : Int) / 4096 % 64, 128 + (r : Int) / 64 % 64, 128 + (r : Int) % 64]
def encB (r : Nat) : ByteArray := strOfNums (encI r)

theorem conv_cells (w : World) (xs : List Int) : (convert 96 9 (.slice (some ⟨w.heap.size, 0, none⟩) xs.length xs.length)).run Tryd.prog (w.alloc (.cells (xs.map (Value.int .u8)).toArray 5)) = .ok (.string (strOfNums xs)) (w.alloc (.cells (xs.map (Value.int .u8)).toArray 5)) :=
  run_convert_bytes_arg _ 96 5 Tryd.underlying96 Tryd.underlying5 _ 0 xs.length xs.length xs rfl (fun i hi => by
    rw [Nat.zero_add, World.cell?_alloc_at _ _ _ _ rfl]
    simp [List.getD, hi]) 9 Tryd.underlying9

set_option maxRecDepth 1000000 in
set_option maxHeartbeats 400000 in
theorem bytes_1 (r : Nat) (w : World) (h : r < 128) : Calls Tryd.prog 60 #[.int .i64 r] w fun e w' => e = .returned (.string (encB r)) ∧ Below w.heap.size w w' := by
  have e1 : encB r = strOfNums [(r : Int)] := by unfold encB encI; rw [if_pos (by omega)]
  rw [e1]
  clear e1
  have hcv : (convert 96 9 (.slice (some ⟨w.heap.size, 0, none⟩) 1 1)).run Tryd.prog (w.alloc (.cells #[.int .u8 ((r : Int))] 5)) = .ok (.string (strOfNums [(r : Int)])) (w.alloc (.cells #[.int .u8 ((r : Int))] 5)) := conv_cells w [(r : Int)]
  go_enter Tryd.func60, Tryd.ntmps60
  go_wp2_with fail
  go_ret
  exact ⟨rfl, (Below.refl _ w).alloc (Nat.le_refl _) _⟩

set_option maxRecDepth 1000000 in
set_option maxHeartbeats 400000 in
theorem bytes_2 (r : Nat) (w : World) (h : 128 ≤ r ∧ r < 2048) : Calls Tryd.prog 60 #[.int .i64 r] w fun e w' => e = .returned (.string (encB r)) ∧ Below w.heap.size w w' := by
  have e1 : encB r = strOfNums [192 + (r : Int) / 64, 128 + (r : Int) % 64] := by unfold encB encI; rw [if_neg (by omega)]; rw [if_pos (by omega)]
  rw [e1]
  clear e1
  obtain ⟨hlo, hhi⟩ := h
  have hcv : (convert 96 9 (.slice (some ⟨w.heap.size, 0, none⟩) 2 2)).run Tryd.prog (w.alloc (.cells #[.int .u8 (192 + (r : Int) / 64), .int .u8 (128 + (r : Int) % 64)] 5)) = .ok (.string (strOfNums [192 + (r : Int) / 64, 128 + (r : Int) % 64])) (w.alloc (.cells #[.int .u8 (192 + (r : Int) / 64), .int .u8 (128 + (r : Int) % 64)] 5)) := conv_cells w [192 + (r : Int) / 64, 128 + (r : Int) % 64]
  go_enter Tryd.func60, Tryd.ntmps60
  go_wp2_with fail
  go_ret
  exact ⟨rfl, (Below.refl _ w).alloc (Nat.le_refl _) _⟩

set_option maxRecDepth 1000000 in
set_option maxHeartbeats 400000 in
theorem bytes_3 (r : Nat) (w : World) (h : 2048 ≤ r ∧ r < 65536) : Calls Tryd.prog 60 #[.int .i64 r] w fun e w' => e = .returned (.string (encB r)) ∧ Below w.heap.size w w' := by
  have e1 : encB r = strOfNums [224 + (r : Int) / 4096, 128 + (r : Int) / 64 % 64, 128 + (r : Int) % 64] := by unfold encB encI; rw [if_neg (by omega)]; rw [if_neg (by omega)]; rw [if_pos (by omega)]
  rw [e1]
  clear e1
  obtain ⟨hlo, hhi⟩ := h
  have hcv : (convert 96 9 (.slice (some ⟨w.heap.size, 0, none⟩) 3 3)).run Tryd.prog (w.alloc (.cells #[.int .u8 (224 + (r : Int) / 4096), .int .u8 (128 + (r : Int) / 64 % 64), .int .u8 (128 + (r : Int) % 64)] 5)) = .ok (.string (strOfNums [224 + (r : Int) / 4096, 128 + (r : Int) / 64 % 64, 128 + (r : Int) % 64])) (w.alloc (.cells #[.int .u8 (224 + (r : Int) / 4096), .int .u8 (128 + (r : Int) / 64 % 64), .int .u8 (128 + (r : Int) % 64)] 5)) := conv_cells w [224 + (r : Int) / 4096, 128 + (r : Int) / 64 % 64, 128 + (r : Int) % 64]
  go_enter Tryd.func60, Tryd.ntmps60
  go_wp2_with fail
  go_ret
  exact ⟨rfl, (Below.refl _ w).alloc (Nat.le_refl _) _⟩

set_option maxRecDepth 1000000 in
set_option maxHeartbeats 400000 in
theorem bytes_4 (r : Nat) (w : World) (h : 65536 ≤ r ∧ r ≤ 1114111) : Calls Tryd.prog 60 #[.int .i64 r] w fun e w' => e = .returned (.string (encB r)) ∧ Below w.heap.size w w' := by
  have e1 : encB r = strOfNums [240 + (r : Int) / 262144, 128 + (r : Int) / 4096 % 64, 128 + (r : Int) / 64 % 64, 128 + (r : Int) % 64] := by unfold encB encI; rw [if_neg (by omega)]; rw [if_neg (by omega)]; rw [if_neg (by omega)]
  rw [e1]
  clear e1
  obtain ⟨hlo, hhi⟩ := h
  have hcv : (convert 96 9 (.slice (some ⟨w.heap.size, 0, none⟩) 4 4)).run Tryd.prog (w.alloc (.cells #[.int .u8 (240 + (r : Int) / 262144), .int .u8 (128 + (r : Int) / 4096 % 64), .int .u8 (128 + (r : Int) / 64 % 64), .int .u8 (128 + (r : Int) % 64)] 5)) = .ok (.string (strOfNums [240 + (r : Int) / 262144, 128 + (r : Int) / 4096 % 64, 128 + (r : Int) / 64 % 64, 128 + (r : Int) % 64])) (w.alloc (.cells #[.int .u8 (240 + (r : Int) / 262144), .int .u8 (128 + (r : Int) / 4096 % 64), .int .u8 (128 + (r : Int) / 64 % 64), .int .u8 (128 + (r : Int) % 64)] 5)) := conv_cells w [240 + (r : Int) / 262144, 128 + (r : Int) / 4096 % 64, 128 + (r : Int) / 64 % 64, 128 + (r : Int) % 64]
  go_enter Tryd.func60, Tryd.ntmps60
  go_wp2_with fail
  go_ret
  exact ⟨rfl, (Below.refl _ w).alloc (Nat.le_refl _) _⟩

theorem bytes_any (r : Nat) (w : World) (h : r ≤ 1114111) : Calls Tryd.prog 60 #[.int .i64 r] w fun e w' => e = .returned (.string (encB r)) ∧ Below w.heap.size w w' := by
  rcases (by omega : r < 128 ∨ (128 ≤ r ∧ r < 2048) ∨ (2048 ≤ r ∧ r < 65536) ∨ (65536 ≤ r ∧ r ≤ 1114111)) with h | h | h | h
  · exact bytes_1 r w h
  · exact bytes_2 r w h
  · exact bytes_3 r w h
  · exact bytes_4 r w h

/-- Is a number a sign? -/
def isSign (r : Int) : Bool := decide (0 < r ∧ r ≤ 1114111 ∧ (r < 55296 ∨ 57343 < r))

set_option maxRecDepth 100000 in
set_option maxHeartbeats 400000 in
theorem sign_any (r : Int) (w : World) : Calls Tryd.prog 59 #[.int .i64 r] w fun e w' => e = .returned (.bool (isSign r)) ∧ w = w' := by
  rcases (by omega : r ≤ 0 ∨ (0 < r ∧ r < 55296) ∨ (55296 ≤ r ∧ r ≤ 57343) ∨ (57343 < r ∧ r ≤ 1114111) ∨ 1114111 < r) with h | ⟨h, h'⟩ | ⟨h, h'⟩ | ⟨h, h'⟩ | h
  · have e1 : isSign r = false := decide_eq_false (by omega)
    rw [e1]
    go_enter Tryd.func59, Tryd.ntmps59
    go_wp2
    go_ret
    exact ⟨rfl, rfl⟩
  · have e1 : isSign r = true := decide_eq_true (by omega)
    rw [e1]
    go_enter Tryd.func59, Tryd.ntmps59
    go_wp2
    go_ret
    exact ⟨rfl, rfl⟩
  · have e1 : isSign r = false := decide_eq_false (by omega)
    rw [e1]
    go_enter Tryd.func59, Tryd.ntmps59
    have h8 : decide (r < 55296) = false := decide_eq_false (by omega)
    have h9 : decide (57343 < r) = false := decide_eq_false (by omega)
    go_wp2
    go_ret
    exact ⟨rfl, rfl⟩
  · have e1 : isSign r = true := decide_eq_true (by omega)
    rw [e1]
    go_enter Tryd.func59, Tryd.ntmps59
    go_wp2
    go_ret
    exact ⟨rfl, rfl⟩
  · have e1 : isSign r = false := decide_eq_false (by omega)
    rw [e1]
    go_enter Tryd.func59, Tryd.ntmps59
    have h9 : decide (r ≤ 1114111) = false := decide_eq_false (by omega)
    go_wp2
    go_ret
    exact ⟨rfl, rfl⟩
end Go.Proofs.YtejogobhnbjpdaaDoor
