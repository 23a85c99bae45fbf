/- Walks: whether a path is replaced already. -/
import Derived.Test.YtkmachhfibcdlaaDoorCc
import Derived.BigQuiet
import Derived.Deep.QuietTactic
import Derived.Shelf.GgClosure.Gives
namespace Go.Proofs.YtkmachhfibcdlaaDoor
set_option linter.unusedVariables false
set_option linter.unusedSimpArgs false
open Go.ChangeShapes Go.WideShapes Go.ChangeAt Go.RowKit

theorem wpQuiet_load_at {P : Program} {C : World → Prop} {ops : Array Oper} {rest : List Oper} {o : Oper} {a : Act} {Q : Act → Prop} (hw : Region.wanted o (yielded ops a.tmps) = true) (ty : TypeId) (x : Operand) (ho : o.op = .load ty x)
    (p : Addr) (hx : a.eval x = .pointer (some p)) (v : Value) (hr : ∀ w, C w → (loadVar ty p).run P w = .ok v w)
    (h : wpQuiet P ops C Q rest (a.put o.dst v)) : wpQuiet P ops C Q (o :: rest) a := by
  refine Go.BigFrame.wpQuiet_want hw fun K hK => ⟨v, fun w hw => ?_, hK _ h⟩
  unfold Oper.quietAt execOp
  simp only [ho, hx, Instr.loadAt, Instr.sureAddr, Sem.run_bind, Sem.run_pure, Result.andThen_ok, hr w hw]
  exact ⟨rfl, rfl⟩
/-- A box of words, whose first is y. -/
structure BoxW (bx : Nat) (y : ByteArray) (w : World) : Prop where
  f : ∃ g off n cap, w.heap[bx]? = some (.cells #[.slice (some ⟨g, off, none⟩) n cap] 23 (0, 0)) ∧ 0 < n ∧ g < w.heap.size ∧ w.cell? ⟨g, off, none⟩ = some (.string y)
theorem BoxW.below {bx : Nat} {y : ByteArray} {w w' : World} (h : BoxW bx y w) (hB : Below w.heap.size w w') : BoxW bx y w' := by
  obtain ⟨g, off, n, cap, h1, h2, h3, h4⟩ := h.f
  exact ⟨g, off, n, cap, (hB.block _ (lt_of_block h1)).trans h1, h2, Nat.lt_of_lt_of_le h3 hB.size, (hB.cell (p := ⟨g, off, none⟩) h3).trans h4⟩
set_option maxHeartbeats 1000000 in
theorem clos_any (bx : Nat) (y : ByteArray) (x : Rp) (w : World) (h : BoxW bx y w) :
    Calls Tryd.prog 41 #[.agg (rpV x).toArray, .pointer (some ⟨bx, 0, none⟩)] w fun e w' => e = .returned (.bool (decide (x.1 = y))) ∧ Below w.heap.size w w' := by
  obtain ⟨a, d⟩ := x
  have ke := str_eqb a y
  show Calls Tryd.prog 41 #[.agg #[.string a, .string d], .pointer (some ⟨bx, 0, none⟩)] w _
  dsimp only
  generalize decide (a = y) = r at *
  have H := Lib.hid h
  clear h
  go_enter Tryd.func41, Tryd.ntmps41
  go_upto_region 1 with fail
  have hnew := heap_alloc_new w (.cells #[.string a, .string d] 34)
  have hBa := (Below.refl w.heap.size w).alloc (Nat.le_refl _) (.cells #[.string a, .string d] 34)
  have H1 := Lib.hid (H.out.below hBa)
  have HB := Lib.hid hBa
  clear hBa
  generalize w.alloc (.cells #[.string a, .string d] 34) = w1 at *
  generalize hf : w.heap.size = f at *
  obtain ⟨g, off, n, cap, h1, h2, h3, h4⟩ := H1.out.f
  have hn : (0 : Int) < (n : Int) := by omega
  have HL0 := Lib.hid (fun w2 (hw : Below w1.heap.size w1 w2) => (by have h := (hw.block f (lt_of_block hnew)).trans hnew; simp [go_sem, block_cell h] : (loadVar 9 ⟨f, 0, none⟩).run Tryd.prog w2 = .ok (.string a) w2))
  have HL1 := Lib.hid (fun w2 (hw : Below w1.heap.size w1 w2) => (by have h := (hw.block bx (lt_of_block h1)).trans h1; simp [go_sem, block_cell h] : (loadVar 23 ⟨bx, 0, none⟩).run Tryd.prog w2 = .ok (.slice (some ⟨g, off, none⟩) n cap) w2))
  have HL2 := Lib.hid (fun w2 (hw : Below w1.heap.size w1 w2) => (by have h := (hw.cell (p := ⟨g, off, none⟩) h3).trans h4; simp [go_sem, h] : (loadVar 9 ⟨g, off, none⟩).run Tryd.prog w2 = .ok (.string y) w2))
  clear h1 h3 h4 hnew
  refine wp_region_class (Below w1.heap.size w1) (by kernel_rfl) (by kernel_rfl) (Below.refl _ _).drew ?_
  repeat (go_big_quiet_step (first | (intro _; rfl)))
  refine wpQuiet_load_at rfl 9 (.tmp 4) rfl ⟨f, 0, none⟩ rfl (.string a) HL0.out ?_
  simp only [Act.put, List.setIfInBounds_toArray, List.set_cons_succ, List.set_cons_zero]
  repeat (go_big_quiet_step (first | (intro _; rfl)))
  refine wpQuiet_load_at rfl 23 (.tmp 1) rfl ⟨bx, 0, none⟩ rfl (.slice (some ⟨g, off, none⟩) n cap) HL1.out ?_
  simp only [Act.put, List.setIfInBounds_toArray, List.set_cons_succ, List.set_cons_zero]
  repeat (go_big_quiet_step (first | (intro _; rfl)))
  refine wpQuiet_load_at rfl 9 (.tmp 7) rfl ⟨g, off, none⟩ rfl (.string y) HL2.out ?_
  simp only [Act.put, List.setIfInBounds_toArray, List.set_cons_succ, List.set_cons_zero]
  repeat (go_big_quiet_step (first | (intro _; rfl)))
  refine wpQuiet_nil ?_
  intro wq hBq
  have HQ := Lib.hid (HB.out.trans (hBq.mono (by have := HB.out.size; omega)))
  clear hBq
  go_wp2_with fail
  go_ret
  subst hf
  exact ⟨rfl, HQ.out⟩
theorem LAt.cellsR {w : World} {b off cap n_ : Nat} {l : List Rp} (h : LAt 2 rpV w (.slice (some ⟨b, off, none⟩) n_ cap) l) {i : Nat} {x y : ByteArray} (hx : l[i]? = some (x, y)) :
    b < w.heap.size ∧ w.cell? ⟨b, off + i * 2, none⟩ = some (.string x) ∧ w.cell? ⟨b, off + i * 2 + 1, none⟩ = some (.string y) := by
  obtain ⟨hl, h⟩ := h
  rcases h with ⟨p, cap, hv, rfl⟩ | ⟨b', off', cap', hv, hb, hcap, hmax, hcell⟩
  · simp at hx
  · injection hv with hv1 hv2 hv3
    injection hv1 with hv1
    injection hv1 with hv4 hv5
    subst hv4; subst hv5
    have g : ∀ j, j < 2 → ∀ z, (rpV (x, y))[j]? = some z → w.cell? ⟨b, off + i * 2 + j, none⟩ = some z := fun j hj z hz => by
      have := hcell (i * 2 + j) z (by rw [LF_at l (fun y _ => rpV_len y) i _ hx j hj]; exact hz)
      rw [Nat.add_assoc]; exact this
    exact ⟨hb, g 0 (by omega) _ rfl, g 1 (by omega) _ rfl⟩
set_option maxRecDepth 100000 in
set_option maxHeartbeats 2000000 in
theorem index_any (bx : Nat) (y : ByteArray) (l : List Rp) (v : Value) (w : World) (h : BoxW bx y w) (hv : LAt 2 rpV w v l) (hl : l.length ≤ 16777216) :
    Calls Tryd.prog 50 #[v, .func (.func 41) #[] #[.pointer (some ⟨bx, 0, none⟩)]] w fun e w' => ∃ k : Int, e = .returned (.int .i64 k) ∧ decide (0 ≤ k) = l.any (fun x => decide (x.1 = y)) ∧ Below w.heap.size w w' := by
  obtain ⟨p, cap, rfl, hp⟩ := lat_shape hv
  have H := Lib.hid h
  have HV := Lib.hid hv
  clear h hv
  go_enter Tryd.func50, Tryd.ntmps50
  go_wp2_with fail
  go_loopg [5, 8] l.length (fun g _ iv wr => ∃ i : Nat, i + g = l.length ∧ iv = .int .i64 i ∧ Hid (∀ j, j < i → ∀ x : Rp, l[j]? = some x → x.1 ≠ y) ∧ Below w.heap.size w wr)
  case atStart => exact ⟨0, by omega, rfl, Lib.hid (fun j h => absurd h (Nat.not_lt_zero _)), Below.refl _ _⟩
  case round =>
    obtain ⟨i, hig, rfl, HA, hBr⟩ := hrel
    have HBr := Lib.hid hBr
    clear hBr
    by_cases hi : i < l.length
    case neg =>
      have hiI : ¬ (i : Int) < (l.length : Int) := by omega
      go_wp2_with fail
      go_ret
      refine ⟨-1, rfl, ?_, HBr.out⟩
      symm
      rw [show decide ((0 : Int) ≤ -1) = false from rfl, List.any_eq_false]
      intro x hx
      obtain ⟨j, hj⟩ := List.mem_iff_getElem?.1 hx
      have := HA.out j (by have := (List.getElem?_eq_some_iff.1 hj).1; omega) x hj
      simpa using this
    have hiI : (i : Int) < (l.length : Int) := by omega
    obtain ⟨b, off, rfl⟩ := hp (by omega)
    have hxi : l[i]? = some l[i] := List.getElem?_eq_getElem hi
    obtain ⟨x1, x2, hx⟩ : ∃ x1 x2, l[i] = (x1, x2) := ⟨_, _, rfl⟩
    rw [hx] at hxi
    obtain ⟨hb, hl1, hl2⟩ := HV.out.cellsR hxi
    have d1 := (HBr.out.cell (p := ⟨b, off + i * 2, none⟩) hb).trans hl1
    have d2 := (HBr.out.cell (p := ⟨b, off + i * 2 + 1, none⟩) hb).trans hl2
    have HX := Lib.hid hxi
    have HC := Lib.hid (clos_any bx y (x1, x2) wr (H.out.below HBr.out))
    clear hxi hx hl1 hl2
    obtain ⟨q, hq⟩ : ∃ q, decide (x1 = y) = q := ⟨_, rfl⟩
    rw [hq] at HC
    have HQ := Lib.hid hq
    clear hq
    cases q with
    | true =>
      go_wp2_with fail
      refine HC.out.mono ?_
      rintro e w' ⟨rfl, hb'⟩
      go_wp2_with fail
      go_ret
      refine ⟨i, rfl, ?_, HBr.out.trans (hb'.mono HBr.out.size)⟩
      rw [decide_eq_true (by omega), eq_comm, List.any_eq_true]
      exact ⟨(x1, x2), List.mem_of_getElem? HX.out, HQ.out⟩
    | false =>
      go_wp2_with fail
      refine HC.out.mono ?_
      rintro e w' ⟨rfl, hb'⟩
      go_wp2_with fail
      go_roundg (gk - 1)
      case measure => omega
      case rel =>
        refine ⟨i + 1, by omega, by go_num, Lib.hid (fun j hj z hz => ?_), HBr.out.trans (hb'.mono HBr.out.size)⟩
        by_cases he : j = i
        · subst he
          rw [HX.out] at hz
          injection hz with hz
          rw [← hz]
          exact of_decide_eq_false HQ.out
        · exact HA.out j (by omega) z hz
set_option maxHeartbeats 1000000 in
theorem twice_any (bx : Nat) (y : ByteArray) (l : List Rp) (v : Value) (w : World) (h : BoxW bx y w) (hv : LAt 2 rpV w v l) (hl : l.length ≤ 16777216) :
    Calls Tryd.prog 40 #[v, .func (.func 41) #[] #[.pointer (some ⟨bx, 0, none⟩)]] w fun e w' => e = .returned (.bool (l.any (fun x => decide (x.1 = y)))) ∧ Below w.heap.size w w' := by
  have HI := Lib.hid (index_any bx y l v w h hv hl)
  clear h hv
  generalize l.any (fun x => decide (x.1 = y)) = r at *
  go_enter Tryd.func40, Tryd.ntmps40
  go_wp2_with fail
  refine HI.out.mono ?_
  rintro e w1 ⟨k, rfl, hk, hB⟩
  have HB := Lib.hid hB
  have HK := Lib.hid hk
  clear hB hk
  go_wp2_with fail
  go_ret
  rw [← HK.out]
  exact ⟨rfl, HB.out⟩
end Go.Proofs.YtkmachhfibcdlaaDoor
