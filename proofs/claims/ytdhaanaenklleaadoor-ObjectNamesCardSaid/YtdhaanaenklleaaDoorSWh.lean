/- Whole rows of bytes: a text is copied into one, a row is cleared. -/
import Derived.Test.YtdhaanaenklleaaDoorSWg
import Derived.Lib.BufferWrite
import Derived.Lib.SliceRun
namespace Go.Proofs.YtdhaanaenklleaaDoor.S
set_option linter.unusedVariables false
open Go.ChangeShapes Go.WideShapes Go.ChangeAt Go.RowKit

/-- A text's bytes. -/
def bytesL (s : ByteArray) : List Nat := s.data.toList.map (·.toNat)
theorem bytesL_len (s : ByteArray) : (bytesL s).length = s.size := by rw [bytesL, List.length_map, ← Lib.size_eq]
theorem bytesL_small (s : ByteArray) : Small 256 (bytesL s) := fun j => by
  simp only [bytesL, List.getD_eq_getElem?_getD, List.getElem?_map]
  cases h : s.data.toList[j]? with
  | none => simp
  | some b => simpa using b.toNat_lt
/-- The first n of a list over another's first. -/
def over (a l : List Nat) : List Nat := (List.range 64).map fun j => if j < a.length then a.getD j 0 else l.getD j 0
theorem over_len (a l : List Nat) : (over a l).length = 64 := by simp [over]
theorem over_get (a l : List Nat) (j : Nat) (h : j < 64) : (over a l).getD j 0 = if j < a.length then a.getD j 0 else l.getD j 0 := getD_range _ 64 j h
theorem byteCells_ints (l : List UInt8) : Lib.byteCells l = (ints .u8 (l.map (·.toNat))).toList := by
  simp [Lib.byteCells, ints]

/-- 'copy(dst, s)' into an array of 64: as many bytes as there is room for. -/
theorem copy_arr (w : World) (b : Nat) (l : List Nat) (s : ByteArray) (ty : TypeId) (h : Arr w b 155 64 .u8 l) :
    (Builtin.copy_ #[59, 9] ty #[.slice (some ⟨b, 0, none⟩) 64 64, .string s]).run Tryd.prog w = .ok (goInt ((min s.size 64 : Nat) : Int)) (w.setRow b (ints .u8 (over ((bytesL s).take 64) l))) := by
  obtain ⟨cur, h1, h2, h3⟩ := h
  obtain ⟨t, ht⟩ : ∃ t, t = s.data.toList.take 64 := ⟨_, rfl⟩
  have hl : (Lib.byteCells t).length = min s.size 64 := by
    rw [Lib.byteCells_length, ht, List.length_take, ← Lib.size_eq, Nat.min_comm]
  have hst := run_storeCells_at Tryd.prog b 0 155 (Lib.byteCells t) 0 cur w h1 (by rw [hl, h2]; omega) (Lib.byteCells_one _)
  have htk : List.take (min s.size 64) (List.map (fun b : UInt8 => Value.int IntKind.u8 (b.toNat : Int)) s.data.toList) = Lib.byteCells t := by
    rw [ht, Lib.byteCells, List.map_take]
    by_cases hc : s.size ≤ 64
    · rw [Nat.min_eq_left hc, List.take_of_length_le (by rw [List.length_map, ← Lib.size_eq]; exact Nat.le_refl _), List.take_of_length_le (by rw [List.length_map, ← Lib.size_eq]; exact hc)]
    · rw [Nat.min_eq_right (by omega)]
  have hrow : (cur.toList.take 0 ++ Lib.byteCells t ++ cur.toList.drop (0 + (Lib.byteCells t).length)).toArray = ints .u8 (over ((bytesL s).take 64) l) := by
    have ht2 : t.map (·.toNat) = (bytesL s).take 64 := by rw [ht, bytesL, List.map_take]
    obtain ⟨q, hq⟩ : ∃ q, q = (bytesL s).take 64 := ⟨_, rfl⟩
    have hql : q.length ≤ 64 := by rw [hq, List.length_take]; omega
    obtain ⟨X, hXe⟩ : ∃ X, X = Lib.byteCells t := ⟨_, rfl⟩
    rw [← hXe, ← hq]
    rw [byteCells_ints, ht2, ← hq] at hXe
    have hX : X.length = q.length := by rw [hXe, Array.length_toList, ints_size]
    have hXg : ∀ j, j < q.length → X[j]? = some (.int .u8 ((q.getD j 0 : Nat) : Int)) := fun j hj => by rw [hXe, Array.getElem?_toList]; exact ints_get _ _ j hj
    clear hXe
    have hX2 : (⟨X⟩ : Array Value).size = q.length := hX
    have hcl : cur.toList.length = 64 := by rw [Array.length_toList]; exact h2
    apply Array.ext_getElem?
    intro j
    simp only [List.take_zero, List.nil_append, List.getElem?_toArray, Nat.zero_add]
    by_cases hj : j < 64
    · rw [ints_get _ _ j (by rw [over_len]; exact hj), over_get _ _ j hj]
      by_cases hjq : j < q.length
      · rw [if_pos hjq, List.getElem?_append_left (by rw [hX]; exact hjq), hXg j hjq]
      · rw [if_neg hjq, List.getElem?_append_right (by rw [hX]; omega), hX, List.getElem?_drop, show q.length + (j - q.length) = j by omega, Array.getElem?_toList, h3 j hj]
    · rw [List.getElem?_eq_none (by rw [List.length_append, List.length_drop]; omega), Array.getElem?_eq_none (by rw [ints_size, over_len]; omega)]
  simp only [Nat.add_zero] at hst
  rw [hrow] at hst
  have hi : (Tryd.prog.info? 5).map (·.size) = some 1 := by kernel_rfl
  cases hq : Tryd.prog.info? 5 with
  | none => simp [hq] at hi
  | some i =>
    simp [Builtin.copy_, run_underlying Tryd.underlying59, Builtin.lenOf, Builtin.firstCells, sizeOf, typeInfo, hq]
    rw [htk, hst]
    simp only [Result.andThen_ok]
    first | done | rfl | (congr 1; omega)
theorem setCells_zero (b : Nat) : ∀ (n o : Nat) (w : World) (l : List Nat), Arr w b 155 64 .u8 l → o + n ≤ 64 →
    (∃ l', Arr (w.setCells b o (List.replicate n (.int .u8 0))) b 155 64 .u8 l' ∧ ∀ j, j < 64 → l'.getD j 0 = if o ≤ j ∧ j < o + n then 0 else l.getD j 0) ∧
    (w.setCells b o (List.replicate n (.int .u8 0))).heap.size = w.heap.size ∧ (∀ base, base ≤ b → Below base w (w.setCells b o (List.replicate n (.int .u8 0)))) ∧
    (∀ j, j ≠ b → (w.setCells b o (List.replicate n (.int .u8 0))).heap[j]? = w.heap[j]?)
  | 0, o, w, l, h, _ => ⟨⟨l, h, fun j hj => by rw [if_neg (by omega)]⟩, rfl, fun _ _ => Below.refl _ _, fun _ _ => rfl⟩
  | n + 1, o, w, l, h, ho => by
    have h1 := h.set (i := o) (by omega) 0 ((List.range 64).map fun j => if o = j then 0 else l.getD j 0) (fun j hj => getD_range _ 64 j hj)
    obtain ⟨⟨l', ha, hl⟩, hsz, hB, hk⟩ := setCells_zero b n (o + 1) _ _ h1 (by omega)
    have e : w.setCells b o (List.replicate (n + 1) (.int .u8 0)) = (w.setCell ⟨b, o, none⟩ (.int .u8 0)).setCells b (o + 1) (List.replicate n (.int .u8 0)) := by rw [List.replicate_succ, World.setCells]
    rw [e]
    refine ⟨⟨l', ha, fun j hj => ?_⟩, hsz.trans (by simp [World.setCell]), fun base hb => ((Below.refl _ _).setCell (by exact hb) _).trans (hB base hb), fun j hj => (hk j hj).trans (heap_setCell_other w _ j _ hj)⟩
    rw [hl j hj, getD_range _ 64 j hj]
    by_cases e1 : o + 1 ≤ j ∧ j < o + 1 + n
    · rw [if_pos e1, if_pos (by omega)]
    · rw [if_neg e1]
      by_cases e2 : o = j
      · rw [if_pos e2, if_pos (by omega)]
      · rw [if_neg e2, if_neg (by omega)]
/-- 'clear(b[:])'. -/
theorem clear_arr (w : World) (b : Nat) (l : List Nat) (ty : TypeId) (h : Arr w b 155 64 .u8 l) :
    ∃ w', (Builtin.clear_ #[59] ty #[.slice (some ⟨b, 0, none⟩) 64 64]).run Tryd.prog w = .ok (.tuple #[]) w' ∧ Arr w' b 155 64 .u8 [] ∧ w'.heap.size = w.heap.size ∧ (∀ base, base ≤ b → Below base w w') ∧ (∀ j, j ≠ b → w'.heap[j]? = w.heap[j]?) := by
  have hz : ∀ w, (zeroValue 5).run Tryd.prog w = .ok (.int .u8 0) w := by intro w; simp [go_sem]
  have h1 := Lib.run_clear_slice w 59 5 ty (.int .u8 0) Tryd.underlying59 hz rfl rfl b 0 64 64 (by omega) (fun j hj => by rw [Nat.zero_add, h.cell j hj]; rfl) (fun j hj => by rw [Nat.zero_add]; exact h.free j)
  obtain ⟨⟨l', ha, hl⟩, hsz, hB, hk⟩ := setCells_zero b 64 0 w l h (by omega)
  exact ⟨_, h1, ha.congr fun j hj => by rw [hl j hj, if_pos (by omega)]; simp, hsz, hB, hk⟩
end Go.Proofs.YtdhaanaenklleaaDoor.S
