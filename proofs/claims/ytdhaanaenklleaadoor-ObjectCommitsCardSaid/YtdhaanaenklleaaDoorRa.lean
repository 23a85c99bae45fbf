/- Walks: a commit's bytes, read by the document. -/
import Derived.Test.YtdhaanaenklleaaDoorN6
namespace Go.Proofs.YtdhaanaenklleaaDoor
set_option linter.unusedVariables false
set_option linter.unusedSimpArgs false
open Go.ChangeShapes Go.WideShapes Go.ChangeAt Go.RowKit

theorem cm_set {r0 : List UInt8} {u v : Value} {note : ByteArray} (h : r0.length = 32) : (cmL r0 u note).toArray.setIfInBounds 32 v = (cmL r0 v note).toArray := by
  have hb : (bytV r0).length = 32 := by rw [bytV_len, h]
  unfold cmL
  rw [List.setIfInBounds_toArray, List.set_append_right _ _ (by omega), hb]
  rfl
theorem cm_cell {w : World} {B : Nat} {r0 : List UInt8} {u : Value} {note : ByteArray} (h : r0.length = 32) (hB : w.heap[B]? = some (.cells (cmL r0 u note).toArray 40 (0, 0))) : w.cell? ⟨B, 32, none⟩ = some u := by
  have h2 : (cmL r0 u note).toArray[32]? = some u := by rw [List.getElem?_toArray, cm_get r0 u note h, if_neg (by omega), if_pos rfl]
  simp [World.cell?, hB, h2]
/-- A commit's box, and a row that will be its parents. -/
structure Bx (base B : Nat) (r0 : List UInt8) (note : ByteArray) (L : List (List UInt8)) (v : Value) (w : World) : Prop where
  own : w.ownsRow base 37 32 v L.length (LF bytV L)
  box : ∃ u, w.heap[B]? = some (.cells (cmL r0 u note).toArray 40 (0, 0))
theorem Bx.st1 (base B : Nat) (r0 : List UInt8) (note : ByteArray) (L : List (List UInt8)) : K3.St1 (Bx base B r0 note L) := fun v w1 w2 h hB => by
  obtain ⟨u, hu⟩ := h.box
  exact ⟨gen_own_below h.own hB, u, (hB.block _ (Array.getElem?_eq_some_iff.1 hu).1).trans hu⟩
structure BxE (base B : Nat) (r0 : List UInt8) (note : ByteArray) (L : List (List UInt8)) (v0 v : Value) (w : World) : Prop where
  e : v = v0
  b : Bx base B r0 note L v w
theorem BxE.st1 (base B : Nat) (r0 : List UInt8) (note : ByteArray) (L : List (List UInt8)) (v0 : Value) : K3.St1 (BxE base B r0 note L v0) := fun v w1 w2 h hB => ⟨h.e, Bx.st1 _ _ _ _ _ v w1 w2 h.b hB⟩
/-- The box behind the store. -/
structure BxF (base B : Nat) (r0 : List UInt8) (note : ByteArray) (L : List (List UInt8)) (v : Value) (w : World) : Prop where
  f : ∃ p n c, n = L.length ∧ w.heap[B]? = some (.cells (cmL r0 (.slice p n c) note).toArray 40 (0, 0)) ∧ w.ownsRow base 37 32 (.slice p n c) L.length (LF bytV L)
theorem BxF.st1 (base B : Nat) (r0 : List UInt8) (note : ByteArray) (L : List (List UInt8)) : K3.St1 (BxF base B r0 note L) := fun v w1 w2 h hB => by
  obtain ⟨p, n, c, h0, h1, h2⟩ := h.f
  exact ⟨p, n, c, h0, (hB.block _ (Array.getElem?_eq_some_iff.1 h1).1).trans h1, gen_own_below h2 hB⟩
theorem own_slice {w : World} {base : Nat} {v : Value} {n : Nat} {xs : List Value} (h : w.ownsRow base 37 32 v n xs) : ∃ p c, v = .slice p n c := by
  rcases h.2 with ⟨h1, h2⟩ | ⟨g, cap, cur, hv, _⟩
  · subst h1; exact ⟨none, 0, by rw [h2]⟩
  · exact ⟨_, cap, hv⟩
theorem out_store1 {o : Oper} {ρ : Operand → Value} {w : World} {φ : Value → World → Prop} {x y : Operand} {B i t : Nat} {p : Option Addr} {n c : Nat} {R : Array Value} (ho : o.op = .store 38 x y) (hx : ρ x = .pointer (some ⟨B, i, none⟩)) (hy : ρ y = .slice p n c)
    (hg : w.heap[B]? = some (.cells R t (0, 0))) (hi : i < R.size) (hφ : φ undef (w.setCell ⟨B, i, none⟩ (.slice p n c))) : K3.Out Tryd.prog o ρ w φ := by
  have hlt := (Array.getElem?_eq_some_iff.1 hg).1
  have hc : w.cell? ⟨B, i, none⟩ = some R[i] := by simp [World.cell?, hg, hi]
  have hf : w.frozen? ⟨B, i, none⟩ = false := by simp [World.frozen?, hg]
  have hw : (storeVar 38 ⟨B, i, none⟩ (.slice p n c)).run Tryd.prog w = .ok () (w.setCell ⟨B, i, none⟩ (.slice p n c)) := by
    simp [storeVar, go_sem, hc, hf]
  unfold K3.Out execOp
  simp only [ho, hx, hy, Instr.storeAt, Instr.sureAddr, Sem.run_bind, Sem.run_pure, Result.andThen_ok, hw]
  exact hφ
theorem set_box {w : World} {B i : Nat} {cur : Array Value} {u : Value} {t : TypeId} (h : w.heap[B]? = some (.cells cur t (0, 0))) : (w.setCell ⟨B, i, none⟩ u).heap[B]? = some (.cells (cur.setIfInBounds i u) t (0, 0)) := by
  have hlt := (Array.getElem?_eq_some_iff.1 h).1
  have h' : w.heap[B] = .cells cur t (0, 0) := by simpa [Array.getElem?_eq_getElem hlt] using h
  show (w.heap.modify B _)[B]? = _
  rw [Array.getElem?_eq_getElem (by simpa using hlt), Array.getElem_modify_self, h']
  rfl
theorem out_append_k3 {P : Program} {o : Oper} {ρ : Operand → Value} {w w' : World} {v u v' : Value} {φ : Value → World → Prop} (s x : Operand) (t : TypeId) (ho : o.op = .call { callee := .builtin .append, args := #[s, x], argTypes := #[t, t] })
    (hs : ρ s = v) (hx : ρ x = u) (hr : (Builtin.append_ #[t, t] o.type #[v, u]).run P w = .ok v' w') (hφ : φ v' w') : K3.Out P o ρ w φ := by
  refine K3.out_run (v := v') (w' := w') ?_ hφ
  unfold execOp
  simp only [ho, resolve, invoke, builtin, Sem.run_bind, Sem.run_pure, Result.andThen_ok, List.map_toArray, List.map_cons, List.map_nil, hs, hx, hr]
theorem out_buildSlice3 {P : Program} {o : Oper} {ρ : Operand → Value} {w w' : World} {φ : Value → World → Prop} {ty : TypeId} {n : Nat} {parts : Array (Nat × Operand)} {ps : Array (Nat × Value)} {v : Value} (ho : o.op = .buildSlice ty n parts) (hx : (parts.map fun (i, x) => (i, ρ x)) = ps) (hr : (Instr.buildSlice ty n ps).run P w = .ok v w') (hφ : φ v w') : K3.Out P o ρ w φ := by
  refine K3.out_run (v := v) (w' := w') ?_ hφ
  unfold execOp
  simp only [ho, hx, Sem.run_bind, Sem.run_pure, Result.andThen_ok, hr]
theorem own_nil (w : World) (base : Nat) : w.ownsRow base 37 32 (.slice none 0 0) 0 (LF bytV []) := ⟨rfl, .inl ⟨rfl, rfl⟩⟩
theorem getCP_many {ps : List ByteArray} (h : 4 < ps.length) : getCP ps = none := by
  match ps, h with
  | note :: root :: rest, h =>
    simp only [getCP]
    rw [if_neg]
    unfold goodC
    simp only [Bool.and_eq_true, decide_eq_true_eq, List.length_cons, dataL, List.length_map] at h ⊢
    omega
  | [], h => rfl
  | [x], h => rfl
theorem getCP_note {note : ByteArray} {l : List ByteArray} (h : 64 < note.size) : getCP (note :: l) = none := by
  match l with
  | [] => rfl
  | root :: rest =>
    simp only [getCP]
    rw [if_neg]
    unfold goodC
    simp only [Bool.and_eq_true, decide_eq_true_eq]
    omega
theorem getCP_good {note root : ByteArray} {rest : List ByteArray} (h32 : id32 (root :: rest) = true) (h1 : note.size ≤ 64) (h2 : rest.length ≤ 2) : getCP (note :: root :: rest) = some (root.data.toList, dataL rest, note) := by
  simp only [getCP, h32, Bool.true_and]
  rw [if_pos]
  unfold goodC
  simp only [Bool.and_eq_true, decide_eq_true_eq, dataL, List.length_map]
  omega

set_option maxRecDepth 100000 in
set_option maxHeartbeats 8000000 in
theorem refGetCommit_any (s : ByteArray) (w : World) (hs : s.size ≤ 1048576) : Calls Tryd.prog 28 #[.string s] w (CGetEnd w (getC s) (.bool true) (.bool false)) := by
  have HZi := Lib.hid (show (Tryd.prog.info? 40).map (·.size) = some (#[.int .u8 0, .int .u8 0, .int .u8 0, .int .u8 0, .int .u8 0, .int .u8 0, .int .u8 0, .int .u8 0, .int .u8 0, .int .u8 0, .int .u8 0, .int .u8 0, .int .u8 0, .int .u8 0, .int .u8 0, .int .u8 0, .int .u8 0, .int .u8 0, .int .u8 0, .int .u8 0, .int .u8 0, .int .u8 0, .int .u8 0, .int .u8 0, .int .u8 0, .int .u8 0, .int .u8 0, .int .u8 0, .int .u8 0, .int .u8 0, .int .u8 0, .int .u8 0, .slice none 0 0, .string ⟨#[]⟩] : Array Value).size by kernel_rfl)
  have HZo := Lib.hid (show (#[.int .u8 0, .int .u8 0, .int .u8 0, .int .u8 0, .int .u8 0, .int .u8 0, .int .u8 0, .int .u8 0, .int .u8 0, .int .u8 0, .int .u8 0, .int .u8 0, .int .u8 0, .int .u8 0, .int .u8 0, .int .u8 0, .int .u8 0, .int .u8 0, .int .u8 0, .int .u8 0, .int .u8 0, .int .u8 0, .int .u8 0, .int .u8 0, .int .u8 0, .int .u8 0, .int .u8 0, .int .u8 0, .int .u8 0, .int .u8 0, .int .u8 0, .int .u8 0, .slice none 0 0, .string ⟨#[]⟩] : Array Value).all (·.oneCell') = true by rw [show (#[.int .u8 0, .int .u8 0, .int .u8 0, .int .u8 0, .int .u8 0, .int .u8 0, .int .u8 0, .int .u8 0, .int .u8 0, .int .u8 0, .int .u8 0, .int .u8 0, .int .u8 0, .int .u8 0, .int .u8 0, .int .u8 0, .int .u8 0, .int .u8 0, .int .u8 0, .int .u8 0, .int .u8 0, .int .u8 0, .int .u8 0, .int .u8 0, .int .u8 0, .int .u8 0, .int .u8 0, .int .u8 0, .int .u8 0, .int .u8 0, .int .u8 0, .int .u8 0, .slice none 0 0, .string ⟨#[]⟩] : Array Value) = (cmL zeroId (.slice none 0 0) ⟨#[]⟩).toArray from rfl]; exact cm_one _ _ _ _ _)
  have HSp : Hid (∀ w1, _) := Lib.hid (fun w1 => S.refSplit_any s w1 hs)
  cases hsp : S.splitB s with
  | none =>
    have Hfin := Lib.hid (show getC s = none by unfold getC; rw [hsp])
    rw [hsp] at HSp
    clear hsp
    go_enter Tryd.func28, Tryd.ntmps28
    go_wp2_with fail
    refine (HSp.out _).mono ?_
    rintro e w1 ⟨hB1, v1, rfl⟩
    have HC := Lib.hid ((ResC.made w _ rfl).below hB1)
    clear hB1
    obtain ⟨cs, hcs, hcz⟩ := HC.out.at_
    go_wp2_with (first | (refine wpList_store_rowTo rfl 40 (.tmp 2) (.tmp 35) rfl rfl w.heap.size #[.int .u8 0, .int .u8 0, .int .u8 0, .int .u8 0, .int .u8 0, .int .u8 0, .int .u8 0, .int .u8 0, .int .u8 0, .int .u8 0, .int .u8 0, .int .u8 0, .int .u8 0, .int .u8 0, .int .u8 0, .int .u8 0, .int .u8 0, .int .u8 0, .int .u8 0, .int .u8 0, .int .u8 0, .int .u8 0, .int .u8 0, .int .u8 0, .int .u8 0, .int .u8 0, .int .u8 0, .int .u8 0, .int .u8 0, .int .u8 0, .int .u8 0, .int .u8 0, .slice none 0 0, .string ⟨#[]⟩] rfl rfl 40 cs hcs HZi.out hcz HZo.out ?_))
    refine bodyPost_ret (v := .tuple #[.agg #[.int .u8 0, .int .u8 0, .int .u8 0, .int .u8 0, .int .u8 0, .int .u8 0, .int .u8 0, .int .u8 0, .int .u8 0, .int .u8 0, .int .u8 0, .int .u8 0, .int .u8 0, .int .u8 0, .int .u8 0, .int .u8 0, .int .u8 0, .int .u8 0, .int .u8 0, .int .u8 0, .int .u8 0, .int .u8 0, .int .u8 0, .int .u8 0, .int .u8 0, .int .u8 0, .int .u8 0, .int .u8 0, .int .u8 0, .int .u8 0, .int .u8 0, .int .u8 0, .slice none 0 0, .string ⟨#[]⟩], .bool false]) (results_cell_tmp (fr := (0, 0)) rfl _ _ w.heap.size 40 _ _ _ rfl rfl (setRow_heap _ _ _ #[.int .u8 0, .int .u8 0, .int .u8 0, .int .u8 0, .int .u8 0, .int .u8 0, .int .u8 0, .int .u8 0, .int .u8 0, .int .u8 0, .int .u8 0, .int .u8 0, .int .u8 0, .int .u8 0, .int .u8 0, .int .u8 0, .int .u8 0, .int .u8 0, .int .u8 0, .int .u8 0, .int .u8 0, .int .u8 0, .int .u8 0, .int .u8 0, .int .u8 0, .int .u8 0, .int .u8 0, .int .u8 0, .int .u8 0, .int .u8 0, .int .u8 0, .int .u8 0, .slice none 0 0, .string ⟨#[]⟩] 40 (0, 0) hcs) Tryd.underlying40 rfl HZi.out) rfl ?_
    exact cget_none Hfin.out (below_setRow HC.out.b (Nat.le_refl _) _)
  | some ps =>
    rw [hsp] at HSp
    obtain ⟨hps, hpl⟩ := split_sizes hsp
    have Hps := Lib.hid hps
    have HgetC := Lib.hid (getC_of hsp)
    clear hps hsp
    by_cases h2 : ps.length < 2 ∨ 4 < ps.length
    · have Hfin := Lib.hid (show getC s = none by rw [HgetC.out]; rcases h2 with h2 | h2; exact getCP_few h2; exact getCP_many h2)
      obtain ⟨ln, hln⟩ : ∃ ln, ln = ps.length := ⟨_, rfl⟩
      rw [← hln] at h2 hpl
      have Hln := Lib.hid hln
      clear hln
      rcases h2 with h2 | h2
      · have h2I : (ln : Int) < 2 := by omega
        go_enter Tryd.func28, Tryd.ntmps28
        go_wp2_with fail
        refine (HSp.out _).mono ?_
        rintro e w1 ⟨hB1, v1, rfl, hv1⟩
        obtain ⟨pp, pc, rfl, hp⟩ := strs_at Hln.out hv1
        have HC := Lib.hid ((ResC.made w _ rfl).below hB1)
        clear hp hv1 hB1
        obtain ⟨cs, hcs, hcz⟩ := HC.out.at_
        go_wp2_with (first | (refine wpList_store_rowTo rfl 40 (.tmp 2) (.tmp 35) rfl rfl w.heap.size #[.int .u8 0, .int .u8 0, .int .u8 0, .int .u8 0, .int .u8 0, .int .u8 0, .int .u8 0, .int .u8 0, .int .u8 0, .int .u8 0, .int .u8 0, .int .u8 0, .int .u8 0, .int .u8 0, .int .u8 0, .int .u8 0, .int .u8 0, .int .u8 0, .int .u8 0, .int .u8 0, .int .u8 0, .int .u8 0, .int .u8 0, .int .u8 0, .int .u8 0, .int .u8 0, .int .u8 0, .int .u8 0, .int .u8 0, .int .u8 0, .int .u8 0, .int .u8 0, .slice none 0 0, .string ⟨#[]⟩] rfl rfl 40 cs hcs HZi.out hcz HZo.out ?_))
        refine bodyPost_ret (v := .tuple #[.agg #[.int .u8 0, .int .u8 0, .int .u8 0, .int .u8 0, .int .u8 0, .int .u8 0, .int .u8 0, .int .u8 0, .int .u8 0, .int .u8 0, .int .u8 0, .int .u8 0, .int .u8 0, .int .u8 0, .int .u8 0, .int .u8 0, .int .u8 0, .int .u8 0, .int .u8 0, .int .u8 0, .int .u8 0, .int .u8 0, .int .u8 0, .int .u8 0, .int .u8 0, .int .u8 0, .int .u8 0, .int .u8 0, .int .u8 0, .int .u8 0, .int .u8 0, .int .u8 0, .slice none 0 0, .string ⟨#[]⟩], .bool false]) (results_cell_tmp (fr := (0, 0)) rfl _ _ w.heap.size 40 _ _ _ rfl rfl (setRow_heap _ _ _ #[.int .u8 0, .int .u8 0, .int .u8 0, .int .u8 0, .int .u8 0, .int .u8 0, .int .u8 0, .int .u8 0, .int .u8 0, .int .u8 0, .int .u8 0, .int .u8 0, .int .u8 0, .int .u8 0, .int .u8 0, .int .u8 0, .int .u8 0, .int .u8 0, .int .u8 0, .int .u8 0, .int .u8 0, .int .u8 0, .int .u8 0, .int .u8 0, .int .u8 0, .int .u8 0, .int .u8 0, .int .u8 0, .int .u8 0, .int .u8 0, .int .u8 0, .int .u8 0, .slice none 0 0, .string ⟨#[]⟩] 40 (0, 0) hcs) Tryd.underlying40 rfl HZi.out) rfl ?_
        exact cget_none Hfin.out (below_setRow HC.out.b (Nat.le_refl _) _)
      · have h2I : ¬ (ln : Int) < 2 := by omega
        have h4I : (4 : Int) < (ln : Int) := by omega
        go_enter Tryd.func28, Tryd.ntmps28
        go_wp2_with fail
        refine (HSp.out _).mono ?_
        rintro e w1 ⟨hB1, v1, rfl, hv1⟩
        obtain ⟨pp, pc, rfl, hp⟩ := strs_at Hln.out hv1
        have HC := Lib.hid ((ResC.made w _ rfl).below hB1)
        clear hp hv1 hB1
        obtain ⟨cs, hcs, hcz⟩ := HC.out.at_
        go_wp2_with (first | (refine wpList_store_rowTo rfl 40 (.tmp 2) (.tmp 35) rfl rfl w.heap.size #[.int .u8 0, .int .u8 0, .int .u8 0, .int .u8 0, .int .u8 0, .int .u8 0, .int .u8 0, .int .u8 0, .int .u8 0, .int .u8 0, .int .u8 0, .int .u8 0, .int .u8 0, .int .u8 0, .int .u8 0, .int .u8 0, .int .u8 0, .int .u8 0, .int .u8 0, .int .u8 0, .int .u8 0, .int .u8 0, .int .u8 0, .int .u8 0, .int .u8 0, .int .u8 0, .int .u8 0, .int .u8 0, .int .u8 0, .int .u8 0, .int .u8 0, .int .u8 0, .slice none 0 0, .string ⟨#[]⟩] rfl rfl 40 cs hcs HZi.out hcz HZo.out ?_))
        refine bodyPost_ret (v := .tuple #[.agg #[.int .u8 0, .int .u8 0, .int .u8 0, .int .u8 0, .int .u8 0, .int .u8 0, .int .u8 0, .int .u8 0, .int .u8 0, .int .u8 0, .int .u8 0, .int .u8 0, .int .u8 0, .int .u8 0, .int .u8 0, .int .u8 0, .int .u8 0, .int .u8 0, .int .u8 0, .int .u8 0, .int .u8 0, .int .u8 0, .int .u8 0, .int .u8 0, .int .u8 0, .int .u8 0, .int .u8 0, .int .u8 0, .int .u8 0, .int .u8 0, .int .u8 0, .int .u8 0, .slice none 0 0, .string ⟨#[]⟩], .bool false]) (results_cell_tmp (fr := (0, 0)) rfl _ _ w.heap.size 40 _ _ _ rfl rfl (setRow_heap _ _ _ #[.int .u8 0, .int .u8 0, .int .u8 0, .int .u8 0, .int .u8 0, .int .u8 0, .int .u8 0, .int .u8 0, .int .u8 0, .int .u8 0, .int .u8 0, .int .u8 0, .int .u8 0, .int .u8 0, .int .u8 0, .int .u8 0, .int .u8 0, .int .u8 0, .int .u8 0, .int .u8 0, .int .u8 0, .int .u8 0, .int .u8 0, .int .u8 0, .int .u8 0, .int .u8 0, .int .u8 0, .int .u8 0, .int .u8 0, .int .u8 0, .int .u8 0, .int .u8 0, .slice none 0 0, .string ⟨#[]⟩] 40 (0, 0) hcs) Tryd.underlying40 rfl HZi.out) rfl ?_
        exact cget_none Hfin.out (below_setRow HC.out.b (Nat.le_refl _) _)
    · obtain ⟨note, root, rest, rfl⟩ := len_of_getCP (ps := ps) (by omega)
      obtain ⟨lr, hlr⟩ : ∃ lr, lr = rest.length := ⟨_, rfl⟩
      have Hlr := Lib.hid hlr
      have hln : lr + 2 = (note :: root :: rest).length := by rw [hlr]; rfl
      have Hln := Lib.hid hln
      have h2I : ¬ ((lr : Int) + 2) < 2 := by omega
      have h4I : ¬ (4 : Int) < ((lr : Int) + 2) := by simp only [List.length_cons] at h2; omega
      have h0I : (0 : Int) < ((lr : Int) + 2) := by omega
      have h0N : 0 < lr + 2 := by omega
      have h1I : (1 : Int) < ((lr : Int) + 2) := by omega
      have h1N : 1 < lr + 2 := by omega
      have hr2 : rest.length ≤ 2 := by simp only [List.length_cons] at h2; omega
      clear h2 hpl hln hlr
      have hns : note.size ≤ 1048576 := Nat.le_trans (Hps.out _ List.mem_cons_self) hs
      by_cases hno : 64 < note.size
      · have Hfin := Lib.hid (show getC s = none by rw [HgetC.out]; exact getCP_note hno)
        have hnoI : (64 : Int) < (note.size : Int) := by omega
        go_enter Tryd.func28, Tryd.ntmps28
        go_wp2_with fail
        refine (HSp.out _).mono ?_
        rintro e w1 ⟨hB1, v1, rfl, hv1⟩
        obtain ⟨pp, pc, rfl, hp⟩ := strs_at Hln.out hv1
        have HC := Lib.hid ((ResC.made w _ rfl).below hB1)
        obtain ⟨g1, o1, rfl, hg1, hcap1, hmax1, hcell1⟩ := hp h0N
        have hc0 := hcell1 0 (by simp)
        simp only [List.getElem_cons_zero, Nat.add_zero] at hc0
        clear hp hv1 hB1 hcell1
        obtain ⟨cs, hcs, hcz⟩ := HC.out.at_
        go_wp2_with (first | (refine wpList_store_rowTo rfl 40 (.tmp 2) (.tmp 35) rfl rfl w.heap.size #[.int .u8 0, .int .u8 0, .int .u8 0, .int .u8 0, .int .u8 0, .int .u8 0, .int .u8 0, .int .u8 0, .int .u8 0, .int .u8 0, .int .u8 0, .int .u8 0, .int .u8 0, .int .u8 0, .int .u8 0, .int .u8 0, .int .u8 0, .int .u8 0, .int .u8 0, .int .u8 0, .int .u8 0, .int .u8 0, .int .u8 0, .int .u8 0, .int .u8 0, .int .u8 0, .int .u8 0, .int .u8 0, .int .u8 0, .int .u8 0, .int .u8 0, .int .u8 0, .slice none 0 0, .string ⟨#[]⟩] rfl rfl 40 cs hcs HZi.out hcz HZo.out ?_))
        refine bodyPost_ret (v := .tuple #[.agg #[.int .u8 0, .int .u8 0, .int .u8 0, .int .u8 0, .int .u8 0, .int .u8 0, .int .u8 0, .int .u8 0, .int .u8 0, .int .u8 0, .int .u8 0, .int .u8 0, .int .u8 0, .int .u8 0, .int .u8 0, .int .u8 0, .int .u8 0, .int .u8 0, .int .u8 0, .int .u8 0, .int .u8 0, .int .u8 0, .int .u8 0, .int .u8 0, .int .u8 0, .int .u8 0, .int .u8 0, .int .u8 0, .int .u8 0, .int .u8 0, .int .u8 0, .int .u8 0, .slice none 0 0, .string ⟨#[]⟩], .bool false]) (results_cell_tmp (fr := (0, 0)) rfl _ _ w.heap.size 40 _ _ _ rfl rfl (setRow_heap _ _ _ #[.int .u8 0, .int .u8 0, .int .u8 0, .int .u8 0, .int .u8 0, .int .u8 0, .int .u8 0, .int .u8 0, .int .u8 0, .int .u8 0, .int .u8 0, .int .u8 0, .int .u8 0, .int .u8 0, .int .u8 0, .int .u8 0, .int .u8 0, .int .u8 0, .int .u8 0, .int .u8 0, .int .u8 0, .int .u8 0, .int .u8 0, .int .u8 0, .int .u8 0, .int .u8 0, .int .u8 0, .int .u8 0, .int .u8 0, .int .u8 0, .int .u8 0, .int .u8 0, .slice none 0 0, .string ⟨#[]⟩] 40 (0, 0) hcs) Tryd.underlying40 rfl HZi.out) rfl ?_
        exact cget_none Hfin.out (below_setRow HC.out.b (Nat.le_refl _) _)
      · have hnoI : ¬ (64 : Int) < (note.size : Int) := by omega
        have hno1 : note.size ≤ 64 := by omega
        clear hno
        go_enter Tryd.func28, Tryd.ntmps28
        go_wp2_with fail
        refine (HSp.out _).mono ?_
        rintro e w1 ⟨hB1, v1, rfl, hv1⟩
        obtain ⟨pp, pc, rfl, hp⟩ := strs_at Hln.out hv1
        have HC := Lib.hid ((ResC.made w _ rfl).below hB1)
        obtain ⟨g1, o1, rfl, hg1, hcap1, hmax1, hcell1⟩ := hp h0N
        have hc0 := hcell1 0 (by simp)
        have hc1 := hcell1 1 (by simp)
        simp only [List.getElem_cons_zero, List.getElem_cons_succ, Nat.add_zero] at hc0 hc1
        have Hcell := Lib.hid hcell1
        clear hp hv1 hB1 hcell1
        go_wp2_with (first | (fail))
        go_loopg [39] (lr + 1) (fun g iv wr => ∃ q : Nat, q + g = lr + 1 ∧ iv = .int .i64 q ∧ id32 ((root :: rest).take q) = true ∧ w1 = wr)
        case atStart => exact ⟨0, by omega, rfl, by rw [List.take_zero]; rfl, rfl⟩
        case round =>
          obtain ⟨q, hqg, rfl, h32, rfl⟩ := hrel
          have H32t := Lib.hid h32
          clear h32
          by_cases hlt : q < lr + 1
          · have hltI : (q : Int) < (lr : Int) + 1 := by omega
            have hq : q < (root :: rest).length := by have := Hlr.out; simp only [List.length_cons]; omega
            have hcw : w1.cell? ⟨g1, o1 + 1 + q, none⟩ = some (.string (root :: rest)[q]) := by
              have h := Hcell.out (q + 1) (by have := Hlr.out; simp only [List.length_cons]; omega)
              rw [show o1 + 1 + q = o1 + (q + 1) by omega, h]
              simp only [List.getElem_cons_succ]
            have Hnx := Lib.hid (fun h : (root :: rest)[q].size = 32 => id32_next hq H32t.out h)
            have Hbad := Lib.hid (fun h : ¬ (root :: rest)[q].size = 32 => getCP_bad (ps := note :: root :: rest) (id32_bad (l := root :: rest) hq h))
            have hxs : (root :: rest)[q].size ≤ 1048576 := Nat.le_trans (Hps.out _ (List.mem_cons_of_mem _ (List.getElem_mem _))) hs
            obtain ⟨x, hx⟩ : ∃ x, x = (root :: rest)[q] := ⟨_, rfl⟩
            rw [← hx] at hcw Hnx Hbad hxs
            clear hx hq
            by_cases hx32 : x.size = 32
            · have Hn2 := Lib.hid (Hnx.out hx32)
              have hxI : ((x.size : Int) == 32) = true := beq_iff_eq.2 (by omega)
              go_wp2_with fail
              go_roundg (gk - 1)
              case measure => omega
              case rel => exact ⟨q + 1, by omega, by go_num, Hn2.out, rfl⟩
            · have Hfin := Lib.hid (show getC s = none by rw [HgetC.out]; exact Hbad.out hx32)
              have hxI : ((x.size : Int) == 32) = false := beq_eq_false_iff_ne.2 (by omega)
              have hxN : ¬ x.size = 32 := hx32
              obtain ⟨cs, hcs, hcz⟩ := HC.out.at_
              go_wp2_with (first | (refine wpList_store_rowTo rfl 40 (.tmp 2) (.tmp 46) rfl rfl w.heap.size #[.int .u8 0, .int .u8 0, .int .u8 0, .int .u8 0, .int .u8 0, .int .u8 0, .int .u8 0, .int .u8 0, .int .u8 0, .int .u8 0, .int .u8 0, .int .u8 0, .int .u8 0, .int .u8 0, .int .u8 0, .int .u8 0, .int .u8 0, .int .u8 0, .int .u8 0, .int .u8 0, .int .u8 0, .int .u8 0, .int .u8 0, .int .u8 0, .int .u8 0, .int .u8 0, .int .u8 0, .int .u8 0, .int .u8 0, .int .u8 0, .int .u8 0, .int .u8 0, .slice none 0 0, .string ⟨#[]⟩] rfl rfl 40 cs hcs HZi.out hcz HZo.out ?_))
              refine bodyPost_ret (v := .tuple #[.agg #[.int .u8 0, .int .u8 0, .int .u8 0, .int .u8 0, .int .u8 0, .int .u8 0, .int .u8 0, .int .u8 0, .int .u8 0, .int .u8 0, .int .u8 0, .int .u8 0, .int .u8 0, .int .u8 0, .int .u8 0, .int .u8 0, .int .u8 0, .int .u8 0, .int .u8 0, .int .u8 0, .int .u8 0, .int .u8 0, .int .u8 0, .int .u8 0, .int .u8 0, .int .u8 0, .int .u8 0, .int .u8 0, .int .u8 0, .int .u8 0, .int .u8 0, .int .u8 0, .slice none 0 0, .string ⟨#[]⟩], .bool false]) (results_cell_tmp (fr := (0, 0)) rfl _ _ w.heap.size 40 _ _ _ rfl rfl (setRow_heap _ _ _ #[.int .u8 0, .int .u8 0, .int .u8 0, .int .u8 0, .int .u8 0, .int .u8 0, .int .u8 0, .int .u8 0, .int .u8 0, .int .u8 0, .int .u8 0, .int .u8 0, .int .u8 0, .int .u8 0, .int .u8 0, .int .u8 0, .int .u8 0, .int .u8 0, .int .u8 0, .int .u8 0, .int .u8 0, .int .u8 0, .int .u8 0, .int .u8 0, .int .u8 0, .int .u8 0, .int .u8 0, .int .u8 0, .int .u8 0, .int .u8 0, .int .u8 0, .int .u8 0, .slice none 0 0, .string ⟨#[]⟩] 40 (0, 0) hcs) Tryd.underlying40 rfl HZi.out) rfl ?_
              exact cget_none Hfin.out (below_setRow HC.out.b (Nat.le_refl _) _)
          · obtain rfl : q = lr + 1 := by omega
            have hltI : ¬ ((lr : Int) + 1) < (lr : Int) + 1 := by omega
            have hi32 : id32 (root :: rest) = true := by have h := H32t.out; rwa [List.take_of_length_le (by rw [Hlr.out]; simp)] at h
            have HgC := Lib.hid (show getC s = some (root.data.toList, dataL rest, note) by rw [HgetC.out]; exact getCP_good hi32 hno1 hr2)
            have Hi32 := Lib.hid hi32
            have hr32 : root.size = 32 := id32_mem hi32 _ List.mem_cons_self
            obtain ⟨r0, hr0⟩ : ∃ r0, r0 = root.data.toList := ⟨_, rfl⟩
            rw [← hr0] at HgC
            have Hr0 := Lib.hid hr0
            have h32 : r0.length = 32 := by rw [hr0, ← Lib.size_eq, hr32]
            have H32 := Lib.hid h32
            have HRy0 := fun w2 => digest_any root w2 hr32
            have HRy := Lib.hid HRy0
            have hbu := fun w1 => build_cm2 w1 r0 note h32
            unfold cmV at hbu
            obtain ⟨R, hR⟩ : ∃ R, R = (cmL r0 (.slice none 0 0) note).toArray := ⟨_, rfl⟩
            have HRi := Lib.hid (show (Tryd.prog.info? 40).map (·.size) = some R.size by rw [hR]; exact cm_size h32)
            have HRo := Lib.hid (show R.all (·.oneCell') = true by rw [hR]; exact cm_one _ _ _ _ _)
            have HRs := Lib.hid (show R.size = 34 by rw [hR]; exact cm_len34 h32)
            rw [← hR] at hbu
            have HR := Lib.hid hR
            have Hbu := Lib.hid hbu
            clear hbu hR hr0 HRy0 hi32 hr32 h32 H32t
            go_wp2_with fail
            have hd4 : Below w1.heap.size w1 w1.drew := (Below.refl _ _).drew
            have hRL : ∃ Rs : List (Value → World → Prop), Rs = [K3.PureV (.slice (some ⟨g1, o1, none⟩) (lr + 2) pc),
                K3.PureV (.pointer (some ⟨g1, o1, none⟩)),
                K3.PureV (.string note),
                K3.PureV (.slice (some ⟨g1, o1, none⟩) (lr + 2) pc),
                K3.PureV (.pointer (some ⟨g1, o1 + 1, none⟩)),
                K3.PureV (.string root),
                K3.PureV (.agg (bytV r0).toArray),
                K3.PureV (.agg R),
                MadeC w1.heap.size #[.int .u8 0, .int .u8 0, .int .u8 0, .int .u8 0, .int .u8 0, .int .u8 0, .int .u8 0, .int .u8 0, .int .u8 0, .int .u8 0, .int .u8 0, .int .u8 0, .int .u8 0, .int .u8 0, .int .u8 0, .int .u8 0, .int .u8 0, .int .u8 0, .int .u8 0, .int .u8 0, .int .u8 0, .int .u8 0, .int .u8 0, .int .u8 0, .int .u8 0, .int .u8 0, .int .u8 0, .int .u8 0, .int .u8 0, .int .u8 0, .int .u8 0, .int .u8 0, .slice none 0 0, .string ⟨#[]⟩],
                MadeC w1.heap.size R] := ⟨_, rfl⟩
            obtain ⟨Rs, hRs⟩ := hRL
            refine K3.wp_region_rel2 w1.heap.size (Nat.le_refl _) (K3.RL Rs) [2, 2, 2, 2, 2, 2, 2, 2, 1, 1] [1, 1, 1, 1, 1, 1, 1, 1, 1, 2] [[], [], [], [], [], [], [], [], [], [8]] (by kernel_rfl) (by kernel_rfl) (K3.RL.st1 (by rw [hRs]; exact K3.st1_cons (K3.PureV.st1 _) (K3.st1_cons (K3.PureV.st1 _) (K3.st1_cons (K3.PureV.st1 _) (K3.st1_cons (K3.PureV.st1 _) (K3.st1_cons (K3.PureV.st1 _) (K3.st1_cons (K3.PureV.st1 _) (K3.st1_cons (K3.PureV.st1 _) (K3.st1_cons (K3.PureV.st1 _) (K3.st1_cons (MadeC.st1 _ _) (K3.st1_cons (MadeC.st1 _ _) (K3.st1_nil)))))))))))) (K3.RL.st2 (by rw [hRs]; exact K3.st2_cons (K3.PureV.st2 _ _ _) (K3.st2_cons (K3.PureV.st2 _ _ _) (K3.st2_cons (K3.PureV.st2 _ _ _) (K3.st2_cons (K3.PureV.st2 _ _ _) (K3.st2_cons (K3.PureV.st2 _ _ _) (K3.st2_cons (K3.PureV.st2 _ _ _) (K3.st2_cons (K3.PureV.st2 _ _ _) (K3.st2_cons (K3.PureV.st2 _ _ _) (K3.st2_skip (K3.st2_skip (K3.st2_nil)))))))))))) ?_ ?_ ?_
            · intro i o d hi hd
              have hmem := List.mem_of_getElem? hi
              simp only [List.mem_cons, List.not_mem_nil, or_false] at hmem
              rcases hmem with rfl | rfl | rfl | rfl | rfl | rfl | rfl | rfl | rfl | rfl <;> simp at hd <;> (subst hd; simp)
            · refine K3.rel_start (Φ := K3.Hop _ _ _ _ _ _ _) ?_
              refine K3.rel_cons (Φ := K3.Hop _ _ _ _ _ _ _) (k := 0) ?_ ?_
              · intro fa fw hfB hfN hfE hfk hft
                have k4 : fa.eval (.tmp 4) = .slice (some ⟨g1, o1, none⟩) (lr + 2) pc := hft 4 (K3.mem_looks (by kernel_rfl)) (K3.noneed (by kernel_rfl))
                rw [hRs]
                refine K3.hop_plain rfl ?_
                refine K3.out_move rfl ?_
                exact ⟨k4, Below.refl _ _⟩
              refine K3.rel_cons (Φ := K3.Hop _ _ _ _ _ _ _) (k := 1) ?_ ?_
              · intro fa fw hfB hfN hfE hfk hft
                have k48 : fa.eval (.tmp 48) = (.slice (some ⟨g1, o1, none⟩) (lr + 2) pc) := by have := hfk 0 (K3.mem_needs (by kernel_rfl)) _ rfl; rw [hRs] at this; exact this
                rw [hRs]
                refine K3.hop_plain rfl ?_
                have kc : ∀ v, fa.eval (.const v) = v := fun _ => rfl
                generalize fa.eval = ρ at *
                exact K3.out_run (v := .pointer (some ⟨g1, o1, none⟩)) (w' := fw) (by simp [execOp, kc, k48, go_sem, h0I, h0N]) ⟨rfl, Below.refl _ _⟩
              refine K3.rel_cons (Φ := K3.Hop _ _ _ _ _ _ _) (k := 2) ?_ ?_
              · intro fa fw hfB hfN hfE hfk hft
                have k49 : fa.eval (.tmp 49) = (.pointer (some ⟨g1, o1, none⟩)) := by have := hfk 1 (K3.mem_needs (by kernel_rfl)) _ rfl; rw [hRs] at this; exact this
                rw [hRs]
                refine K3.hop_plain rfl ?_
                have h := ((hd4.trans hfB).cell (p := ⟨g1, o1, none⟩) hg1).trans hc0
                exact out_load3 rfl k49 (by simp [go_sem, h]) ⟨rfl, Below.refl _ _⟩
              refine K3.rel_cons (Φ := K3.Hop _ _ _ _ _ _ _) (k := 3) ?_ ?_
              · intro fa fw hfB hfN hfE hfk hft
                have k4 : fa.eval (.tmp 4) = .slice (some ⟨g1, o1, none⟩) (lr + 2) pc := hft 4 (K3.mem_looks (by kernel_rfl)) (K3.noneed (by kernel_rfl))
                rw [hRs]
                refine K3.hop_plain rfl ?_
                refine K3.out_move rfl ?_
                exact ⟨k4, Below.refl _ _⟩
              refine K3.rel_cons (Φ := K3.Hop _ _ _ _ _ _ _) (k := 4) ?_ ?_
              · intro fa fw hfB hfN hfE hfk hft
                have k51 : fa.eval (.tmp 51) = (.slice (some ⟨g1, o1, none⟩) (lr + 2) pc) := by have := hfk 3 (K3.mem_needs (by kernel_rfl)) _ rfl; rw [hRs] at this; exact this
                rw [hRs]
                refine K3.hop_plain rfl ?_
                have kc : ∀ v, fa.eval (.const v) = v := fun _ => rfl
                generalize fa.eval = ρ at *
                exact K3.out_run (v := .pointer (some ⟨g1, o1 + 1, none⟩)) (w' := fw) (by simp [execOp, kc, k51, go_sem, h1I, h1N]) ⟨rfl, Below.refl _ _⟩
              refine K3.rel_cons (Φ := K3.Hop _ _ _ _ _ _ _) (k := 5) ?_ ?_
              · intro fa fw hfB hfN hfE hfk hft
                have k52 : fa.eval (.tmp 52) = (.pointer (some ⟨g1, o1 + 1, none⟩)) := by have := hfk 4 (K3.mem_needs (by kernel_rfl)) _ rfl; rw [hRs] at this; exact this
                rw [hRs]
                refine K3.hop_plain rfl ?_
                have h := ((hd4.trans hfB).cell (p := ⟨g1, o1 + 1, none⟩) hg1).trans hc1
                exact out_load3 rfl k52 (by simp [go_sem, h]) ⟨rfl, Below.refl _ _⟩
              refine K3.rel_cons (Φ := K3.Hop _ _ _ _ _ _ _) (k := 6) ?_ ?_
              · intro fa fw hfB hfN hfE hfk hft
                have k53 : fa.eval (.tmp 53) = (.string root) := by have := hfk 5 (K3.mem_needs (by kernel_rfl)) _ rfl; rw [hRs] at this; exact this
                rw [hRs]
                refine K3.hop_plain rfl ?_
                have kf : fa.eval (.func 55) = .func (.func 55) #[] #[] := rfl
                refine K3.out_call (f := 55) (args := #[.string root]) (by generalize fa.eval = ρ at *; simp [execOp, k53, kf, go_sem]) ?_
                refine (HRy.out fw).mono ?_
                rintro e w' ⟨rfl, hB'⟩
                exact ⟨_, rfl, (by rw [Hr0.out]; exact rfl), hB'⟩
              refine K3.rel_cons (Φ := K3.Hop _ _ _ _ _ _ _) (k := 7) ?_ ?_
              · intro fa fw hfB hfN hfE hfk hft
                have k50 : fa.eval (.tmp 50) = (.string note) := by have := hfk 2 (K3.mem_needs (by kernel_rfl)) _ rfl; rw [hRs] at this; exact this
                have k54 : fa.eval (.tmp 54) = (.agg (bytV r0).toArray) := by have := hfk 6 (K3.mem_needs (by kernel_rfl)) _ rfl; rw [hRs] at this; exact this
                rw [hRs]
                refine K3.hop_plain rfl ?_
                exact out_build3 rfl (by simp only [List.map_toArray, List.map_cons, List.map_nil, k50, k54]) (Hbu.out fw) ⟨rfl, Below.refl _ _⟩
              refine K3.rel_cons (Φ := K3.Hop _ _ _ _ _ _ _) (k := 8) ?_ ?_
              · intro fa fw hfB hfN hfE hfk hft
                rw [hRs]
                refine K3.hop_plain rfl ?_
                generalize fa.eval = ρ at *
                exact K3.out_run (v := .pointer (some ⟨fw.heap.size, 0, none⟩)) (w' := fw.alloc (.cells #[.int .u8 0, .int .u8 0, .int .u8 0, .int .u8 0, .int .u8 0, .int .u8 0, .int .u8 0, .int .u8 0, .int .u8 0, .int .u8 0, .int .u8 0, .int .u8 0, .int .u8 0, .int .u8 0, .int .u8 0, .int .u8 0, .int .u8 0, .int .u8 0, .int .u8 0, .int .u8 0, .int .u8 0, .int .u8 0, .int .u8 0, .int .u8 0, .int .u8 0, .int .u8 0, .int .u8 0, .int .u8 0, .int .u8 0, .int .u8 0, .int .u8 0, .int .u8 0, .slice none 0 0, .string ⟨#[]⟩] 40)) (by simp [execOp, go_sem]) ⟨⟨fw.heap.size, hfN, rfl, heap_alloc_new _ _⟩, (Below.refl _ _).alloc (Nat.le_refl _) _⟩
              refine K3.rel_cons (Φ := K3.Hop _ _ _ _ _ _ _) (k := 9) ?_ ?_
              · intro fa fw hfB hfN hfE hfk hft
                have k8 : (MadeC w1.heap.size #[.int .u8 0, .int .u8 0, .int .u8 0, .int .u8 0, .int .u8 0, .int .u8 0, .int .u8 0, .int .u8 0, .int .u8 0, .int .u8 0, .int .u8 0, .int .u8 0, .int .u8 0, .int .u8 0, .int .u8 0, .int .u8 0, .int .u8 0, .int .u8 0, .int .u8 0, .int .u8 0, .int .u8 0, .int .u8 0, .int .u8 0, .int .u8 0, .int .u8 0, .int .u8 0, .int .u8 0, .int .u8 0, .int .u8 0, .int .u8 0, .int .u8 0, .int .u8 0, .slice none 0 0, .string ⟨#[]⟩]) (fa.eval (.tmp 8)) fw := by have := hfk 8 (K3.mem_needs (by kernel_rfl)) _ rfl; rw [hRs] at this; exact this
                have k55 : fa.eval (.tmp 55) = (.agg R) := by have := hfk 7 (K3.mem_needs (by kernel_rfl)) _ rfl; rw [hRs] at this; exact this
                rw [hRs]
                refine K3.hop_plain rfl ?_
                obtain ⟨B, hB0, hBv, hBh⟩ := k8.e
                exact out_store rfl (show fa.eval (.tmp 8) = _ from hBv) k55 hBh HRi.out (by rw [HRs.out]; rfl) HRo.out ⟨(show MadeC w1.heap.size R (fa.tmps.getD 8 undef) _ from ⟨B, hB0, hBv, setRow_heap _ _ _ _ _ _ hBh⟩), below_setRow (Below.refl _ _) hB0 _⟩
              exact K3.rel_nil
            · intro fa fw hfB hfy hff hfs hfd
              rw [hRs] at hfy
              have k8 : MadeC w1.heap.size R (fa.tmps.getD 8 undef) fw := hfy 9 _ rfl (K3.unkilled (by decide))
              have hBf : Below w1.heap.size w1 fw := hd4.trans hfB
              have e := K3.rel_frame [48, 49, 50, 51, 52, 53, 54, 55, 8] (by kernel_rfl) hff hfs hfd
              simp only [List.foldl] at e
              clear hfy hff hfs hfd 
              generalize fa.tmps.getD 48 undef = x48 at e
              generalize fa.tmps.getD 49 undef = x49 at e
              generalize fa.tmps.getD 50 undef = x50 at e
              generalize fa.tmps.getD 51 undef = x51 at e
              generalize fa.tmps.getD 52 undef = x52 at e
              generalize fa.tmps.getD 53 undef = x53 at e
              generalize fa.tmps.getD 54 undef = x54 at e
              generalize fa.tmps.getD 55 undef = x55 at e
              generalize fa.tmps.getD 8 undef = x8 at e k8
              simp [List.setIfInBounds_toArray, List.set_cons_succ, List.set_cons_zero] at e
              subst e
              obtain ⟨B, hB0, rfl, hBh⟩ := k8.e
              clear k8 hfB
              by_cases hm : lr = 0
              · have hm2 : lr + 2 = 2 := by omega
                by_cases hpc : pc = 2
                · subst hpc
                  obtain ⟨bs, hbs⟩ : ∃ bs, bs = fw.heap.size := ⟨_, rfl⟩
                  have HB0 := Lib.hid hB0
                  have HBb := Lib.hid (show B < bs by rw [hbs]; exact (Array.getElem?_eq_some_iff.1 hBh).1)
                  have HBw := Lib.hid hBf
                  rw [HR.out] at hBh
                  have Hbh := Lib.hid hBh
                  clear hB0 hBf hBh
                  go_wp2_with fail
                  go_loopg [59] lr (fun g iv wr => ∃ q p5 c5 L, q + g = lr ∧ iv = .int .i64 q ∧ L.length = q ∧ L = dataL (rest.take q) ∧ Below w1.heap.size w1 wr ∧ bs ≤ wr.heap.size ∧ wr.heap[B]? = some (.cells (cmL r0 (.slice p5 q c5) note).toArray 40 (0, 0)) ∧ wr.ownsRow bs 37 32 (.slice p5 q c5) L.length (LF bytV L))
                  case atStart => exact ⟨0, none, 0, [], by omega, rfl, rfl, by rw [List.take_zero]; rfl, HBw.out, by omega, Hbh.out, own_nil _ _⟩
                  case round =>
                    obtain ⟨q, p5, c5, L, hqg, rfl, hLl, hLe, hBr, hbs2, hbox, hown⟩ := hrel
                    have HBr := Lib.hid hBr
                    have HLl := Lib.hid hLl
                    have Hbs := Lib.hid hbs2
                    clear hBr
                    by_cases hlt : q < lr
                    · have hltI : (q : Int) < (lr : Int) := by omega
                      exact absurd hlt (by omega)
                    · obtain rfl : q = lr := by omega
                      have hltI : ¬ (q : Int) < (q : Int) := by omega
                      rw [List.take_of_length_le (by rw [Hlr.out]; exact Nat.le_refl _)] at hLe
                      obtain ⟨cs, hcs, hcz⟩ := (HC.out.below HBr.out).at_
                      have HBx := Lib.hid (HC.out.below HBr.out).b
                      have Hown := Lib.hid hown
                      have hRi := cm_size (pv := .slice p5 q c5) (note := note) H32.out
                      have hR34 := cm_len34 (pv := .slice p5 q c5) (note := note) H32.out
                      have hR1 := cm_one r0 p5 q c5 note
                      obtain ⟨R5, hR5⟩ : ∃ R5, R5 = (cmL r0 (.slice p5 q c5) note).toArray := ⟨_, rfl⟩
                      rw [← hR5] at hRi hR34 hR1 hbox
                      have HR5 := Lib.hid hR5
                      have HRi5 := Lib.hid hRi
                      have HRs5 := Lib.hid hR34
                      have HRo5 := Lib.hid hR1
                      clear hRi hR34 hR1 hown hR5
                      go_wp2_with (first | (refine wpList_load_row rfl 40 (.tmp 8) rfl B rfl 40 R5 (0, 0) _ hbox Tryd.underlying40 rfl HRi5.out ?_) | (refine wpList_store_rowTo rfl 40 (.tmp 2) (.tmp 71) rfl rfl w.heap.size R5 rfl rfl 40 cs hcs HRi5.out (by rw [hcz, HRs5.out]) HRo5.out ?_))
                      refine bodyPost_ret (v := .tuple #[.agg R5, .bool true]) (results_cell_tmp (fr := (0, 0)) rfl _ _ w.heap.size 40 _ _ _ rfl rfl (setRow_heap _ _ _ R5 40 (0, 0) hcs) Tryd.underlying40 rfl HRi5.out) rfl ?_
                      have hL : LAt 32 bytV wr (.slice p5 q c5) L := by
                        have h := LAt.own (n := 32) (fl := bytV) (fun y hy => by rw [bytV_len]; rw [hLe] at hy; exact id32_len Hi32.out y (List.mem_cons_of_mem _ hy)) Hown.out
                        exact h
                      have hL2 := LAt.far hL w.heap.size R5 (fun b o e => by
                        subst e
                        have h1 := (Hown.out.lt b rfl).1
                        have h2 := HBb.out
                        have h3 := HB0.out
                        obtain ⟨cs4, h4, _⟩ := HC.out.at_
                        have h5 := (Array.getElem?_eq_some_iff.1 h4).1
                        omega)
                      rw [HR5.out] at hL2 ⊢
                      exact cget_some (by rw [HgC.out, hLe]) (below_setRow HBx.out (Nat.le_refl _) _) HLl.out.symm hL2
                · have hpc2 : ¬ pc = 2 := hpc
                  obtain ⟨bs, hbs⟩ : ∃ bs, bs = fw.heap.size := ⟨_, rfl⟩
                  have HB0 := Lib.hid hB0
                  have HBb := Lib.hid (show B < bs by rw [hbs]; exact (Array.getElem?_eq_some_iff.1 hBh).1)
                  have HBw := Lib.hid hBf
                  rw [HR.out] at hBh
                  have Hbh := Lib.hid hBh
                  clear hB0 hBf hBh
                  go_wp2_with fail
                  go_loopg [59] lr (fun g iv wr => ∃ q p5 c5 L, q + g = lr ∧ iv = .int .i64 q ∧ L.length = q ∧ L = dataL (rest.take q) ∧ Below w1.heap.size w1 wr ∧ bs ≤ wr.heap.size ∧ wr.heap[B]? = some (.cells (cmL r0 (.slice p5 q c5) note).toArray 40 (0, 0)) ∧ wr.ownsRow bs 37 32 (.slice p5 q c5) L.length (LF bytV L))
                  case atStart => exact ⟨0, none, 0, [], by omega, rfl, rfl, by rw [List.take_zero]; rfl, HBw.out, by omega, Hbh.out, own_nil _ _⟩
                  case round =>
                    obtain ⟨q, p5, c5, L, hqg, rfl, hLl, hLe, hBr, hbs2, hbox, hown⟩ := hrel
                    have HBr := Lib.hid hBr
                    have HLl := Lib.hid hLl
                    have Hbs := Lib.hid hbs2
                    clear hBr
                    by_cases hlt : q < lr
                    · have hltI : (q : Int) < (lr : Int) := by omega
                      exact absurd hlt (by omega)
                    · obtain rfl : q = lr := by omega
                      have hltI : ¬ (q : Int) < (q : Int) := by omega
                      rw [List.take_of_length_le (by rw [Hlr.out]; exact Nat.le_refl _)] at hLe
                      obtain ⟨cs, hcs, hcz⟩ := (HC.out.below HBr.out).at_
                      have HBx := Lib.hid (HC.out.below HBr.out).b
                      have Hown := Lib.hid hown
                      have hRi := cm_size (pv := .slice p5 q c5) (note := note) H32.out
                      have hR34 := cm_len34 (pv := .slice p5 q c5) (note := note) H32.out
                      have hR1 := cm_one r0 p5 q c5 note
                      obtain ⟨R5, hR5⟩ : ∃ R5, R5 = (cmL r0 (.slice p5 q c5) note).toArray := ⟨_, rfl⟩
                      rw [← hR5] at hRi hR34 hR1 hbox
                      have HR5 := Lib.hid hR5
                      have HRi5 := Lib.hid hRi
                      have HRs5 := Lib.hid hR34
                      have HRo5 := Lib.hid hR1
                      clear hRi hR34 hR1 hown hR5
                      go_wp2_with (first | (refine wpList_load_row rfl 40 (.tmp 8) rfl B rfl 40 R5 (0, 0) _ hbox Tryd.underlying40 rfl HRi5.out ?_) | (refine wpList_store_rowTo rfl 40 (.tmp 2) (.tmp 71) rfl rfl w.heap.size R5 rfl rfl 40 cs hcs HRi5.out (by rw [hcz, HRs5.out]) HRo5.out ?_))
                      refine bodyPost_ret (v := .tuple #[.agg R5, .bool true]) (results_cell_tmp (fr := (0, 0)) rfl _ _ w.heap.size 40 _ _ _ rfl rfl (setRow_heap _ _ _ R5 40 (0, 0) hcs) Tryd.underlying40 rfl HRi5.out) rfl ?_
                      have hL : LAt 32 bytV wr (.slice p5 q c5) L := by
                        have h := LAt.own (n := 32) (fl := bytV) (fun y hy => by rw [bytV_len]; rw [hLe] at hy; exact id32_len Hi32.out y (List.mem_cons_of_mem _ hy)) Hown.out
                        exact h
                      have hL2 := LAt.far hL w.heap.size R5 (fun b o e => by
                        subst e
                        have h1 := (Hown.out.lt b rfl).1
                        have h2 := HBb.out
                        have h3 := HB0.out
                        obtain ⟨cs4, h4, _⟩ := HC.out.at_
                        have h5 := (Array.getElem?_eq_some_iff.1 h4).1
                        omega)
                      rw [HR5.out] at hL2 ⊢
                      exact cget_some (by rw [HgC.out, hLe]) (below_setRow HBx.out (Nat.le_refl _) _) HLl.out.symm hL2
              · have hm1 : 1 ≤ lr := by omega
                obtain ⟨bs, hbs⟩ : ∃ bs, bs = fw.heap.size := ⟨_, rfl⟩
                have HB0 := Lib.hid hB0
                have HBb := Lib.hid (show B < bs by rw [hbs]; exact (Array.getElem?_eq_some_iff.1 hBh).1)
                have HBw := Lib.hid hBf
                rw [HR.out] at hBh
                have Hbh := Lib.hid hBh
                clear hB0 hBf hBh
                go_wp2_with fail
                go_loopg [59] lr (fun g iv wr => ∃ q p5 c5 L, q + g = lr ∧ iv = .int .i64 q ∧ L.length = q ∧ L = dataL (rest.take q) ∧ Below w1.heap.size w1 wr ∧ bs ≤ wr.heap.size ∧ wr.heap[B]? = some (.cells (cmL r0 (.slice p5 q c5) note).toArray 40 (0, 0)) ∧ wr.ownsRow bs 37 32 (.slice p5 q c5) L.length (LF bytV L))
                case atStart => exact ⟨0, none, 0, [], by omega, rfl, rfl, by rw [List.take_zero]; rfl, HBw.out, by omega, Hbh.out, own_nil _ _⟩
                case round =>
                  obtain ⟨q, p5, c5, L, hqg, rfl, hLl, hLe, hBr, hbs2, hbox, hown⟩ := hrel
                  have HBr := Lib.hid hBr
                  have HLl := Lib.hid hLl
                  have Hbs := Lib.hid hbs2
                  clear hBr
                  by_cases hlt : q < lr
                  · have hltI : (q : Int) < (lr : Int) := by omega
                    have hltr : q < rest.length := by have := Hlr.out; omega
                    have hc5 : w1.cell? ⟨g1, o1 + 2 + q, none⟩ = some (.string rest[q]) := by
                      have h := Hcell.out (q + 2) (by have := Hlr.out; simp only [List.length_cons]; omega)
                      rw [show o1 + 2 + q = o1 + (q + 2) by omega, h]
                      simp only [List.getElem_cons_succ]
                    have hcw := (HBr.out.cell (p := ⟨g1, o1 + 2 + q, none⟩) hg1).trans hc5
                    have hx32 : rest[q].size = 32 := id32_mem Hi32.out _ (List.mem_cons_of_mem _ (List.getElem_mem _))
                    have Hnx := Lib.hid (show L ++ [rest[q].data.toList] = dataL (rest.take (q + 1)) by rw [dataL_next hltr, hLe])
                    obtain ⟨x, hx⟩ : ∃ x, x = rest[q] := ⟨_, rfl⟩
                    rw [← hx] at hc5 hcw hx32 Hnx
                    obtain ⟨x0, hx0⟩ : ∃ x0, x0 = x.data.toList := ⟨_, rfl⟩
                    rw [← hx0] at Hnx
                    have Hx0 := Lib.hid hx0
                    have Hxl := Lib.hid (show x0.length = 32 by rw [hx0, ← Lib.size_eq, hx32])
                    have HRy := Lib.hid (fun w2 => digest_any x w2 hx32)
                    clear hx hx0 hx32 hLe hc5 hLl
                    go_wp2_with fail
                    have hd4 : Below w1.heap.size wr wr.drew := (Below.refl _ _).drew
                    have hd4' : Below wr.heap.size wr wr.drew := (Below.refl _ _).drew
                    have hRL : ∃ Rs : List (Value → World → Prop), Rs = [K3.PureV (.pointer (some ⟨B, 32, none⟩)),
                        BxE bs B r0 note L (.slice p5 q c5),
                        K3.PureV (.string x),
                        K3.PureV (.agg (bytV x0).toArray),
                        K3.NewB 1 (bytV x0).toArray 37,
                        Bx bs B r0 note (L ++ [x0]),
                        K3.PureV (.pointer (some ⟨B, 32, none⟩)),
                        BxF bs B r0 note (L ++ [x0])] := ⟨_, rfl⟩
                    obtain ⟨Rs, hRs⟩ := hRL
                    refine K3.wp_region_rel2 w1.heap.size HBr.out.size (K3.RL Rs) [2, 1, 2, 2, 1, 1, 2, 1] [1, 1, 1, 1, 1, 2, 1, 2] [[], [], [], [], [], [1, 4], [], [1, 4, 5]] (by kernel_rfl) (by kernel_rfl) (K3.RL.st1 (by rw [hRs]; exact K3.st1_cons (K3.PureV.st1 _) (K3.st1_cons (BxE.st1 _ _ _ _ _ _) (K3.st1_cons (K3.PureV.st1 _) (K3.st1_cons (K3.PureV.st1 _) (K3.st1_cons (K3.NewB.st1 _ _ _) (K3.st1_cons (Bx.st1 _ _ _ _ _) (K3.st1_cons (K3.PureV.st1 _) (K3.st1_cons (BxF.st1 _ _ _ _ _) (K3.st1_nil)))))))))) (K3.RL.st2 (by rw [hRs]; exact K3.st2_cons (K3.PureV.st2 _ _ _) (K3.st2_skip (K3.st2_cons (K3.PureV.st2 _ _ _) (K3.st2_cons (K3.PureV.st2 _ _ _) (K3.st2_skip (K3.st2_skip (K3.st2_cons (K3.PureV.st2 _ _ _) (K3.st2_skip (K3.st2_nil)))))))))) ?_ ?_ ?_
                    · intro i o d hi hd
                      have hmem := List.mem_of_getElem? hi
                      simp only [List.mem_cons, List.not_mem_nil, or_false] at hmem
                      rcases hmem with rfl | rfl | rfl | rfl | rfl | rfl | rfl | rfl <;> simp at hd <;> (subst hd; simp)
                    · refine K3.rel_start (Φ := K3.Hop _ _ _ _ _ _ _) ?_
                      refine K3.rel_cons (Φ := K3.Hop _ _ _ _ _ _ _) (k := 0) ?_ ?_
                      · intro fa fw hfB hfN hfE hfk hft
                        have k8 : fa.eval (.tmp 8) = .pointer (some ⟨B, 0, none⟩) := hft 8 (K3.mem_looks (by kernel_rfl)) (K3.noneed (by kernel_rfl))
                        rw [hRs]
                        refine K3.hop_plain rfl ?_
                        generalize fa.eval = ρ at *
                        exact K3.out_run (v := .pointer (some ⟨B, 32, none⟩)) (w' := fw) (by simp [execOp, k8, go_sem]) ⟨rfl, Below.refl _ _⟩
                      refine K3.rel_cons (Φ := K3.Hop _ _ _ _ _ _ _) (k := 1) ?_ ?_
                      · intro fa fw hfB hfN hfE hfk hft
                        have hE : Below wr.drew.heap.size wr.drew fw := hfE (by kernel_rfl)
                        have k63 : fa.eval (.tmp 63) = (.pointer (some ⟨B, 32, none⟩)) := by have := hfk 0 (K3.mem_needs (by kernel_rfl)) _ rfl; rw [hRs] at this; exact this
                        rw [hRs]
                        refine K3.hop_plain rfl ?_
                        have hbx := (hE.block B (Nat.lt_of_lt_of_le (Array.getElem?_eq_some_iff.1 hbox).1 hd4.size)).trans (show wr.drew.heap[B]? = _ from hbox)
                        exact out_load3 rfl k63 (by simp [go_sem, cm_cell H32.out hbx]) ⟨⟨rfl, gen_own_below hown (hd4'.trans (hE.mono hd4'.size)), _, hbx⟩, Below.refl _ _⟩
                      refine K3.rel_cons (Φ := K3.Hop _ _ _ _ _ _ _) (k := 2) ?_ ?_
                      · intro fa fw hfB hfN hfE hfk hft
                        have k10 : fa.eval (.tmp 10) = .string x := hft 10 (K3.mem_looks (by kernel_rfl)) (K3.noneed (by kernel_rfl))
                        rw [hRs]
                        refine K3.hop_plain rfl ?_
                        refine K3.out_move rfl ?_
                        exact ⟨k10, Below.refl _ _⟩
                      refine K3.rel_cons (Φ := K3.Hop _ _ _ _ _ _ _) (k := 3) ?_ ?_
                      · intro fa fw hfB hfN hfE hfk hft
                        have k65 : fa.eval (.tmp 65) = (.string x) := by have := hfk 2 (K3.mem_needs (by kernel_rfl)) _ rfl; rw [hRs] at this; exact this
                        rw [hRs]
                        refine K3.hop_plain rfl ?_
                        have kf : fa.eval (.func 55) = .func (.func 55) #[] #[] := rfl
                        refine K3.out_call (f := 55) (args := #[.string x]) (by generalize fa.eval = ρ at *; simp [execOp, k65, kf, go_sem]) ?_
                        refine (HRy.out fw).mono ?_
                        rintro e w' ⟨rfl, hB'⟩
                        exact ⟨_, rfl, (by rw [Hx0.out]; exact rfl), hB'⟩
                      refine K3.rel_cons (Φ := K3.Hop _ _ _ _ _ _ _) (k := 4) ?_ ?_
                      · intro fa fw hfB hfN hfE hfk hft
                        have k66 : fa.eval (.tmp 66) = (.agg (bytV x0).toArray) := by have := hfk 3 (K3.mem_needs (by kernel_rfl)) _ rfl; rw [hRs] at this; exact this
                        rw [hRs]
                        refine K3.hop_plain rfl ?_
                        exact out_buildSlice3 rfl (by simp only [List.map_toArray, List.map_cons, List.map_nil, k66]) (slice_one eltI fw x0 (by rw [bytV_len]; exact Hxl.out) (by decide)) ⟨⟨_, rfl, heap_alloc_new _ _⟩, (Below.refl _ _).alloc (Nat.le_refl _) _⟩
                      refine K3.rel_cons (Φ := K3.Hop _ _ _ _ _ _ _) (k := 5) ?_ ?_
                      · intro fa fw hfB hfN hfE hfk hft
                        have k64 : (BxE bs B r0 note L (.slice p5 q c5)) (fa.eval (.tmp 64)) fw := by have := hfk 1 (K3.mem_needs (by kernel_rfl)) _ rfl; rw [hRs] at this; exact this
                        have k67 : (K3.NewB 1 (bytV x0).toArray 37) (fa.eval (.tmp 67)) fw := by have := hfk 4 (K3.mem_needs (by kernel_rfl)) _ rfl; rw [hRs] at this; exact this
                        rw [hRs]
                        refine K3.hop_plain rfl ?_
                        obtain ⟨hv0, hb0⟩ := k64
                        obtain ⟨u0, hu0⟩ := hb0.box
                        obtain ⟨B1, hb1, hb2⟩ := k67
                        rw [hv0] at hb0
                        obtain ⟨v', w', hr, ho, hg⟩ := run_append_gen eltI fw bs _ _ _ _ [x0] hb0.own (LAt.block (by rw [bytV_len]; exact Hxl.out) rfl hb2) (by have := HLl.out; simp only [List.length_cons, List.length_nil]; omega) (by unfold maxLen; have := HLl.out; simp only [List.length_cons, List.length_nil]; omega) (by have := Hbs.out; have := hfB.size; have := hd4.size; omega)
                        have hBw : Below bs fw w' := (Below.refl _ _).grown hg (by have := Hbs.out; have := hfB.size; have := hd4.size; omega) (fun k hk => (hb0.own.lt k hk).1)
                        refine out_append_k3 (.tmp 64) (.tmp 67) 38 rfl hv0 hb1 hr ⟨(show Bx bs B r0 note (L ++ [x0]) v' w' from ⟨by rw [List.length_append, LF_app]; exact ho, u0, (hBw.block B HBb.out).trans hu0⟩), ?_⟩
                        exact hBw.mono (by have := HBb.out; have := HB0.out; omega)
                      refine K3.rel_cons (Φ := K3.Hop _ _ _ _ _ _ _) (k := 6) ?_ ?_
                      · intro fa fw hfB hfN hfE hfk hft
                        have k8 : fa.eval (.tmp 8) = .pointer (some ⟨B, 0, none⟩) := hft 8 (K3.mem_looks (by kernel_rfl)) (K3.noneed (by kernel_rfl))
                        rw [hRs]
                        refine K3.hop_plain rfl ?_
                        generalize fa.eval = ρ at *
                        exact K3.out_run (v := .pointer (some ⟨B, 32, none⟩)) (w' := fw) (by simp [execOp, k8, go_sem]) ⟨rfl, Below.refl _ _⟩
                      refine K3.rel_cons (Φ := K3.Hop _ _ _ _ _ _ _) (k := 7) ?_ ?_
                      · intro fa fw hfB hfN hfE hfk hft
                        have k69 : fa.eval (.tmp 69) = (.pointer (some ⟨B, 32, none⟩)) := by have := hfk 6 (K3.mem_needs (by kernel_rfl)) _ rfl; rw [hRs] at this; exact this
                        have k68 : (Bx bs B r0 note (L ++ [x0])) (fa.eval (.tmp 68)) fw := by have := hfk 5 (K3.mem_needs (by kernel_rfl)) _ rfl; rw [hRs] at this; exact this
                        rw [hRs]
                        refine K3.hop_plain rfl ?_
                        obtain ⟨u0, hu0⟩ := k68.box
                        obtain ⟨p6, c6, hv6⟩ := own_slice k68.own
                        have hs := k68.own
                        rw [hv6] at hs
                        exact out_store1 rfl k69 (show fa.eval (.tmp 68) = _ from hv6) hu0 (by rw [cm_len34 H32.out]; decide) ⟨(show BxF bs B r0 note (L ++ [x0]) (fa.tmps.getD 69 undef) _ from ⟨p6, _, c6, rfl, (by have h := set_box (i := 32) (u := .slice p6 (L ++ [x0]).length c6) hu0; rwa [cm_set H32.out] at h), ownsRow_setCell_below hs (by exact HBb.out) _⟩), (Below.refl _ _).setCell (by exact HB0.out) _⟩
                      exact K3.rel_nil
                    · intro fa fw hfB hfy hff hfs hfd
                      rw [hRs] at hfy
                      have k69 : BxF bs B r0 note (L ++ [x0]) (fa.tmps.getD 69 undef) fw := hfy 7 _ rfl (K3.unkilled (by decide))
                      have hBf : Below w1.heap.size w1 fw := HBr.out.trans (hd4.trans hfB)
                      have HS6 := Lib.hid (show bs ≤ fw.heap.size by have h1 := Hbs.out; have h2 := hd4.size; have h3 := hfB.size; omega)
                      have e := K3.rel_frame [63, 64, 65, 66, 67, 68, 69] (by kernel_rfl) hff hfs hfd
                      simp only [List.foldl] at e
                      clear hfy hff hfs hfd 
                      generalize fa.tmps.getD 63 undef = x63 at e
                      generalize fa.tmps.getD 64 undef = x64 at e
                      generalize fa.tmps.getD 65 undef = x65 at e
                      generalize fa.tmps.getD 66 undef = x66 at e
                      generalize fa.tmps.getD 67 undef = x67 at e
                      generalize fa.tmps.getD 68 undef = x68 at e
                      generalize fa.tmps.getD 69 undef = x69 at e k69
                      simp [List.setIfInBounds_toArray, List.set_cons_succ, List.set_cons_zero] at e
                      subst e
                      obtain ⟨p6, n6, c6, rfl, hbx6, hown6⟩ := k69.f
                      clear k69 hfB
                      have HBf := Lib.hid hBf
                      have Hbx6 := Lib.hid hbx6
                      have Hown6 := Lib.hid hown6
                      clear hBf hbx6 hown6
                      go_wp2_with fail
                      go_roundg (gk - 1)
                      case measure => omega
                      case rel => exact ⟨q + 1, p6, c6, L ++ [x0], by omega, by go_num, by rw [List.length_append, HLl.out]; rfl, by rw [Hnx.out], HBf.out, HS6.out, by have h := Hbx6.out; rw [List.length_append, HLl.out] at h; exact h, by have h := Hown6.out; rw [show (L ++ [x0]).length = q + 1 by rw [List.length_append, HLl.out]; rfl] at h ⊢; exact h⟩
                  · obtain rfl : q = lr := by omega
                    have hltI : ¬ (q : Int) < (q : Int) := by omega
                    rw [List.take_of_length_le (by rw [Hlr.out]; exact Nat.le_refl _)] at hLe
                    obtain ⟨cs, hcs, hcz⟩ := (HC.out.below HBr.out).at_
                    have HBx := Lib.hid (HC.out.below HBr.out).b
                    have Hown := Lib.hid hown
                    have hRi := cm_size (pv := .slice p5 q c5) (note := note) H32.out
                    have hR34 := cm_len34 (pv := .slice p5 q c5) (note := note) H32.out
                    have hR1 := cm_one r0 p5 q c5 note
                    obtain ⟨R5, hR5⟩ : ∃ R5, R5 = (cmL r0 (.slice p5 q c5) note).toArray := ⟨_, rfl⟩
                    rw [← hR5] at hRi hR34 hR1 hbox
                    have HR5 := Lib.hid hR5
                    have HRi5 := Lib.hid hRi
                    have HRs5 := Lib.hid hR34
                    have HRo5 := Lib.hid hR1
                    clear hRi hR34 hR1 hown hR5
                    go_wp2_with (first | (refine wpList_load_row rfl 40 (.tmp 8) rfl B rfl 40 R5 (0, 0) _ hbox Tryd.underlying40 rfl HRi5.out ?_) | (refine wpList_store_rowTo rfl 40 (.tmp 2) (.tmp 71) rfl rfl w.heap.size R5 rfl rfl 40 cs hcs HRi5.out (by rw [hcz, HRs5.out]) HRo5.out ?_))
                    refine bodyPost_ret (v := .tuple #[.agg R5, .bool true]) (results_cell_tmp (fr := (0, 0)) rfl _ _ w.heap.size 40 _ _ _ rfl rfl (setRow_heap _ _ _ R5 40 (0, 0) hcs) Tryd.underlying40 rfl HRi5.out) rfl ?_
                    have hL : LAt 32 bytV wr (.slice p5 q c5) L := by
                      have h := LAt.own (n := 32) (fl := bytV) (fun y hy => by rw [bytV_len]; rw [hLe] at hy; exact id32_len Hi32.out y (List.mem_cons_of_mem _ hy)) Hown.out
                      exact h
                    have hL2 := LAt.far hL w.heap.size R5 (fun b o e => by
                      subst e
                      have h1 := (Hown.out.lt b rfl).1
                      have h2 := HBb.out
                      have h3 := HB0.out
                      obtain ⟨cs4, h4, _⟩ := HC.out.at_
                      have h5 := (Array.getElem?_eq_some_iff.1 h4).1
                      omega)
                    rw [HR5.out] at hL2 ⊢
                    exact cget_some (by rw [HgC.out, hLe]) (below_setRow HBx.out (Nat.le_refl _) _) HLl.out.symm hL2
end Go.Proofs.YtdhaanaenklleaaDoor
