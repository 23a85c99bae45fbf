/- Changes cut in two; appended onto a list of none; the state of the document's course. -/
import Derived.Test.YtdhaanaenklleaaDoorEm
import Derived.Test.YtdhaanaenklleaaDoorKz
namespace Go.Proofs.YtdhaanaenklleaaDoor
set_option linter.unusedVariables false
set_option linter.unusedSimpArgs false
open Go.ChangeShapes Go.WideShapes Go.ChangeAt Go.RowKit

theorem addr_zero (a : Addr) : a.add 0 = a := by unfold Addr.add; simp
theorem chg_take {w : World} {v : Value} {L : List D.Chg} (h : ChgAt w v L) (k : Nat) (hk : k ≤ L.length) :
    ∃ vt, (∀ w1, (Instr.slice 73 v none (some (.int .i64 k)) none).run Tryd.prog w1 = .ok vt w1) ∧ ChgAt w vt (L.take k) := by
  have he : Tryd.prog.elem 73 = 77 := by kernel_rfl
  have hz : ∀ w1, (sizeOf 77).run Tryd.prog w1 = .ok 2 w1 := fun w1 => by simp [go_sem]
  have run : ∀ p len cap, k ≤ cap → ∀ w1, (Instr.slice 73 (.slice p len cap) none (some (.int .i64 k)) none).run Tryd.prog w1 = .ok (.slice p k cap) w1 := fun p len cap hc w1 => by
    rw [run_slice_h w1 73 _ _ _ (by rw [he]; exact Tryd.underlying73) .i64 k (by omega) (by omega), he, hz]
    simp only [Result.andThen_ok, sliced, Int.toNat_natCast, Nat.zero_mul, Nat.sub_zero]
    have : (if cap = 0 then p else p.map fun x => x.add 0) = p := by
      split
      · rfl
      · cases p with
        | none => rfl
        | some a => simp [addr_zero]
    rw [this]
  rcases h with ⟨p, cap, rfl, rfl⟩ | ⟨b, off, cap, rfl, hb, hcap, hmax, hcell⟩
  · have hk0 : k = 0 := by simpa using hk
    subst hk0
    exact ⟨_, run p 0 cap (by omega), .inl ⟨p, cap, rfl, rfl⟩⟩
  · refine ⟨_, run _ _ cap (by omega), .inr ⟨b, off, cap, by rw [List.length_take, Nat.min_eq_left hk], hb, by rw [List.length_take]; omega, hmax, fun j x hx => hcell j x ?_⟩⟩
    have e : flatD L = flatD (L.take k) ++ flatD (L.drop k) := by rw [← flatD_app, List.take_append_drop]
    rw [e, List.getElem?_append_left (List.getElem?_eq_some_iff.1 hx).1]
    exact hx
theorem chg_drop {w : World} {v : Value} {L : List D.Chg} (h : ChgAt w v L) (k : Nat) (hk : k ≤ L.length) :
    ∃ vt, (∀ w1, (Instr.slice 73 v (some (.int .i64 k)) none none).run Tryd.prog w1 = .ok vt w1) ∧ ChgAt w vt (L.drop k) := by
  have he : Tryd.prog.elem 73 = 77 := by kernel_rfl
  have hz : ∀ w1, (sizeOf 77).run Tryd.prog w1 = .ok 2 w1 := fun w1 => by simp [go_sem]
  rcases h with ⟨p, cap, rfl, rfl⟩ | ⟨b, off, cap, rfl, hb, hcap, hmax, hcell⟩
  · have hk0 : k = 0 := by simpa using hk
    subst hk0
    refine ⟨_, fun w1 => ?_, .inl ⟨if cap = 0 then p else p.map fun x => x.add 0, cap, rfl, rfl⟩⟩
    rw [run_slice_l w1 73 _ _ _ (by rw [he]; exact Tryd.underlying73) .i64 _ (by omega) (by omega), he, hz]
    simp only [Result.andThen_ok, sliced, Int.toNat_natCast, Nat.zero_mul, Nat.sub_zero]
  · have run : ∀ w1, (Instr.slice 73 (.slice (some ⟨b, off, none⟩) L.length cap) (some (.int .i64 k)) none none).run Tryd.prog w1 = .ok (.slice (if cap = k then some ⟨b, off, none⟩ else some ⟨b, off + k * 2, none⟩) (L.length - k) (cap - k)) w1 := fun w1 => by
      rw [run_slice_l w1 73 _ _ _ (by rw [he]; exact Tryd.underlying73) .i64 k (by omega) (by omega), he, hz]
      simp only [Result.andThen_ok, sliced, Int.toNat_natCast, Option.map_some, add_off]
    refine ⟨_, run, ?_⟩
    have hdl : (L.drop k).length = L.length - k := List.length_drop
    by_cases h0 : L.length - k = 0
    · exact .inl ⟨_, _, by rw [h0], List.eq_nil_of_length_eq_zero (by omega)⟩
    · rw [if_neg (by omega)]
      refine .inr ⟨b, off + k * 2, cap - k, by rw [hdl], hb, by omega, by unfold maxLen at hmax ⊢; omega, fun j x hx => ?_⟩
      have e : flatD L = flatD (L.take k) ++ flatD (L.drop k) := by rw [← flatD_app, List.take_append_drop]
      have hl : (flatD (L.take k)).length = k * 2 := by rw [flatD_len, List.length_take, Nat.min_eq_left hk]
      have := hcell (k * 2 + j) x (by rw [e, List.getElem?_append_right (by omega), hl, Nat.add_sub_cancel_left]; exact hx)
      rw [Nat.add_assoc]; exact this
theorem run_append_first (w : World) (base B : Nat) (u : Value) (l : List D.Chg) (hB : w.heap[B]? = some (.cells #[] 77 (0, 0))) (hbB : base ≤ B) (hu : ChgAt w u l) (hb : l.length * 24 ≤ 140737488355328) (hbase : base ≤ w.heap.size) :
    ∃ v' w', (Builtin.append_ #[73, 73] 73 #[.slice (some ⟨B, 0, none⟩) 0 0, u]).run Tryd.prog w = .ok v' w' ∧ w'.ownsRow base 77 2 v' l.length (flatD l) ∧ Below w.heap.size w w' := by
  have hown : w.ownsRow base 77 2 (.slice (some ⟨B, 0, none⟩) 0 0) 0 [] := ⟨rfl, .inr ⟨B, 0, #[], rfl, hbB, hB, Nat.le_refl _, by decide, rfl, rfl⟩⟩
  obtain ⟨v', w', hr, ho, hg⟩ := run_append_chg w base _ 0 [] u l hown hu (by simpa using hb) hbase
  rw [Nat.zero_add, List.nil_append] at ho
  refine ⟨v', w', hr, ho, ?_⟩
  obtain ⟨i0, hi, hz0, hz1, hz2⟩ := info_parts (z := .agg #[.string ⟨#[]⟩, .int .i64 0]) (size := 2) (bytes := 24) (show (Tryd.prog.info? 77).map (fun i => (i.zero, i.size, i.bytes)) = _ by kernel_rfl)
  rcases hu with ⟨p, cap, rfl, rfl⟩ | ⟨b, off, cap, rfl, hb2, hcap, hmax, hcell⟩
  · have hr2 : (Builtin.append_ #[73, 73] 73 #[.slice (some ⟨B, 0, none⟩) 0 0,  .slice p 0 cap]).run Tryd.prog w = .ok (.slice (some ⟨B, 0, none⟩) 0 0) w := by
      cases p <;> simp [Builtin.append_, run_underlying Tryd.underlying73, sizeOf, typeInfo, hi, Builtin.lenOf, Builtin.firstCells, loadCells, loadCellsFrom, storeCells]
    rw [hr] at hr2
    cases hr2
    exact Below.refl _ _
  · by_cases h0 : l.length = 0
    · rw [h0] at hr
      have hr2 : (Builtin.append_ #[73, 73] 73 #[.slice (some ⟨B, 0, none⟩) 0 0, .slice (some ⟨b, off, none⟩) 0 cap]).run Tryd.prog w = .ok (.slice (some ⟨B, 0, none⟩) 0 0) w := by
        simp [Builtin.append_, run_underlying Tryd.underlying73, sizeOf, typeInfo, hi, Builtin.lenOf, Builtin.firstCells, loadCells, loadCellsFrom, storeCells]
      rw [hr] at hr2
      cases hr2
      exact Below.refl _ _
    · have hr2 := run_append_grow (P := Tryd.prog) w 73 73 77 i0 _ Tryd.underlying73 hi hz0 ⟨B, 0, none⟩ 0 0 [] (by simp) (fun j v h => by simp at h) ⟨b, off, none⟩ l.length cap (flatD l) (by rw [flatD_len, hz1]) (fun j y hj => by rw [add_off]; exact hcell j y hj) (by omega) (by unfold maxLen at hmax; omega) (growslice_fits (by omega) (by rw [hz2]; omega))
      rw [hr] at hr2
      cases hr2
      exact (Below.refl _ _).drew.alloc (Nat.le_refl _) _
/-- What was put together so far. -/
structure Lo (w : World) (L : List D.Chg) (vo : Value) (wr : World) : Prop where
  ow : wr.ownsRow w.heap.size 77 2 vo L.length (flatD L)
  bl : Below w.heap.size w wr
theorem Lo.below {w w1 w2 : World} {L : List D.Chg} {vo : Value} (h : Lo w L vo w1) (hB : Below w1.heap.size w1 w2) : Lo w L vo w2 := ⟨own_below h.ow hB, h.bl.trans (hB.mono h.bl.size)⟩
theorem chg_lit (w : World) (p : ByteArray) (k : Int) : ChgAt (w.alloc (.cells #[.string p, .int .i64 k] 77)) (.slice (some ⟨w.heap.size, 0, none⟩) 1 1) [(p, k)] := by
  refine .inr ⟨w.heap.size, 0, 1, rfl, by simp, Nat.le_refl _, by decide, fun j x hx => ?_⟩
  rw [block_cell (t := 77) (cur := #[.string p, .int .i64 k]) (by show (w.heap.push _)[w.heap.size]? = _; simp)]
  simpa [flatD] using hx
theorem Lo.put {w w1 w2 : World} {L M : List D.Chg} {vo v' : Value} (h : Lo w L vo w1) (ho : w2.ownsRow w.heap.size 77 2 v' M.length (flatD M)) (hg : w1.grownBy w2 vo.ownBlock) : Lo w M v' w2 :=
  ⟨ho, h.bl.grown hg h.bl.size (fun j hj => (h.ow.lt j hj).1)⟩
/-- A box with an input in it. -/
structure Box (w : World) (B : Nat) (z : ByteArray) (dv : List UInt8) (x : World) : Prop where
  lt : B < x.heap.size
  c : x.cell? ⟨B, 0, none⟩ = some (.string z)
  r : x.rangeAt B 1 (bytV dv)
  b : Below w.heap.size w x
  n : w.heap.size ≤ B
theorem Box.below {w x y : World} {B : Nat} {z : ByteArray} {dv : List UInt8} (h : Box w B z dv x) (hB : Below x.heap.size x y) : Box w B z dv y :=
  ⟨Nat.lt_of_lt_of_le h.lt hB.size, (hB.cell (p := ⟨B, 0, none⟩) h.lt).trans h.c, fun j q hq => (hB.cell (p := ⟨B, 1 + j, none⟩) h.lt).trans (h.r j q hq), h.b.trans (hB.mono h.b.size), h.n⟩
theorem box_made (w : World) (old : Array Value) (z : ByteArray) (dv : List UInt8) (ho : old.size = 33) (hd : dv.length = 32) : Box w w.heap.size z dv ((w.alloc (.cells old 113)).setRow w.heap.size (Value.string z :: bytV dv).toArray) := by
  refine ⟨by simp [World.setRow], box_cell w old z dv, fun j q hq => ?_, below_setRow ((Below.refl _ w).alloc (Nat.le_refl _) _) (Nat.le_refl _) _, Nat.le_refl _⟩
  rw [cell_setRow_same _ _ _ old _ 113 (0, 0) (by show (w.heap.push _)[w.heap.size]? = _; simp)]
  rw [Nat.add_comm]
  simpa using hq
end Go.Proofs.YtdhaanaenklleaaDoor
