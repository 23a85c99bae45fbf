/- Walks: a lexer; a token that is put behind the others. -/
import Derived.Test.YtejogobhnbjpdaaDoorKc
namespace Go.Proofs.YtejogobhnbjpdaaDoor
set_option linter.unusedVariables false
set_option linter.unusedSimpArgs false
open Go.ChangeShapes Go.WideShapes Go.ChangeAt Go.RowKit

theorem run_append_gen2 {t e : TypeId} {n by_ : Nat} {X : Type} {fl : X → List Value} (E : Elt t e n by_ fl) (w : World) (base : Nat) (v : Value) (m : Nat) (xs : List Value) (u : Value) (l : List X) (hown : w.ownsRow base e n v m xs) (hu : LAt n fl w u l) (hb : (m + l.length) * by_ ≤ 140737488355328) (hm63 : m + l.length ≤ maxLen) (hbase : base ≤ w.heap.size) :
    ∃ v' w', (Builtin.append_ #[t, t] t #[v, u]).run Tryd.prog w = .ok v' w' ∧ w'.ownsRow base e n v' (m + l.length) (xs ++ LF fl l) ∧ w.grownBy w' v.ownBlock ∧ (v'.ownBlock = v.ownBlock ∨ v'.ownBlock = some w.heap.size) := by
  obtain ⟨i0, z, hi, hz0, hz1, hz2, hzs⟩ := E.inf
  obtain ⟨hl, hu⟩ := hu
  rcases hu with ⟨p, cap, rfl, rfl⟩ | ⟨b, off, cap, rfl, hb2, hcap, hmax, hcell⟩
  · cases p with
    | none => exact ⟨v, w, gen_append_none base t t e i0 n cap E.tu hi v m xs hown, by simpa [LF] using hown, World.grownBy.refl _ _, .inl rfl⟩
    | some ad =>
      obtain ⟨v', w', h1, h2, h3, _, h4⟩ := run_append_own_at (P := Tryd.prog) w base t t e i0 z n by_ E.tu hi hz0 hz1 hz2 hzs E.pos v m xs hown ad 0 cap [] (by simp) (fun j u h => by simp at h) (fun u h => by simp at h) (by simpa using hm63) (by simpa using hb) hbase
      exact ⟨v', w', h1, by simpa [LF] using h2, h3, h4⟩
  · obtain ⟨v', w', h1, h2, h3, _, h4⟩ := run_append_own_at (P := Tryd.prog) w base t t e i0 z n by_ E.tu hi hz0 hz1 hz2 hzs E.pos v m xs hown ⟨b, off, none⟩ l.length cap (LF fl l) (LF_len l hl) (fun j y hj => by
      rw [gen_add_off]; exact hcell j y hj) (fun y hy => LF_mem E hy) hm63 hb hbase
    exact ⟨v', w', h1, h2, h3, h4⟩
theorem own_slice {w : World} {base : Nat} {v : Value} {n : Nat} {xs : List Value} (h : w.ownsRow base 31 3 v n xs) : ∃ p c, v = .slice p n c := by
  rcases h.2 with ⟨h1, h2⟩ | ⟨g, cap, cur, hv, _⟩
  · subst h1; exact ⟨none, 0, by rw [h2]⟩
  · exact ⟨_, cap, hv⟩
/-- A row in another block than the one that grew. -/
theorem own_far {w w' : World} {base : Nat} {v : Value} {n : Nat} {xs : List Value} {row : Option Nat} (h : w.ownsRow base 31 3 v n xs) (hg : w.grownBy w' row) (hne : ∀ g, v.ownBlock = some g → row ≠ some g) : w'.ownsRow base 31 3 v n xs := by
  refine ⟨h.1, ?_⟩
  rcases h.2 with h | ⟨g, cap, cur, hv, hb, hh, rest⟩
  · exact .inl h
  · exact .inr ⟨g, cap, cur, hv, hb, (hg.block g (lt_of_block hh) (fun e => hne g (by rw [hv]; rfl) e.symm)).trans hh, rest⟩
theorem own_lt {w : World} {base : Nat} {v : Value} {n : Nat} {xs : List Value} (h : w.ownsRow base 31 3 v n xs) {g : Nat} (hg : v.ownBlock = some g) : base ≤ g ∧ g < w.heap.size := h.lt g hg
/-- Two rows that share no block. -/
def Apart (u v : Value) : Prop := ∀ g, u.ownBlock = some g → v.ownBlock ≠ some g
theorem Apart.symm {u v : Value} (h : Apart u v) : Apart v u := fun g h1 h2 => h g h2 h1
/-- What a lexer at b holds: a text, a place, tokens and comments; v are its tokens, or will be. -/
structure LB (b : Nat) (s : ByteArray) (at_ : Nat) (T M : List Tk) (v : Value) (w : World) : Prop where
  f : ∃ u mv, w.heap[b]? = some (.cells #[.string s, .int .i64 at_, u, mv] 53 (0, 0)) ∧ w.ownsRow (b + 1) 31 3 v T.length (LF tkV T) ∧ w.ownsRow (b + 1) 31 3 mv M.length (LF tkV M) ∧ Apart v mv
structure LBE (b : Nat) (s : ByteArray) (at_ : Nat) (T M : List Tk) (v0 v : Value) (w : World) : Prop where
  e : v = v0
  b : LB b s at_ T M v w
structure Lx (b : Nat) (s : ByteArray) (at_ : Nat) (T M : List Tk) (w : World) : Prop where
  f : ∃ tv mv, w.heap[b]? = some (.cells #[.string s, .int .i64 at_, tv, mv] 53 (0, 0)) ∧ w.ownsRow (b + 1) 31 3 tv T.length (LF tkV T) ∧ w.ownsRow (b + 1) 31 3 mv M.length (LF tkV M) ∧ Apart tv mv
theorem Lx.below {b at_ : Nat} {s : ByteArray} {T M : List Tk} {w w' : World} (h : Lx b s at_ T M w) (hB : Below w.heap.size w w') : Lx b s at_ T M w' := by
  obtain ⟨tv, mv, h1, h2, h3, h4⟩ := h.f
  exact ⟨tv, mv, (hB.block _ (lt_of_block h1)).trans h1, gen_own_below h2 hB, gen_own_below h3 hB, h4⟩
theorem Lx.lt {b at_ : Nat} {s : ByteArray} {T M : List Tk} {w : World} (h : Lx b s at_ T M w) : b < w.heap.size := by
  obtain ⟨tv, mv, h1, _⟩ := h.f; exact lt_of_block h1
theorem LB.st1 (b : Nat) (s : ByteArray) (at_ : Nat) (T M : List Tk) : K3.St1 (LB b s at_ T M) := fun v w1 w2 h hB => by
  obtain ⟨u, mv, h1, h2, h3, h4⟩ := h.f
  exact ⟨u, mv, (hB.block _ (lt_of_block h1)).trans h1, gen_own_below h2 hB, gen_own_below h3 hB, h4⟩
theorem LBE.st1 (b : Nat) (s : ByteArray) (at_ : Nat) (T M : List Tk) (v0 : Value) : K3.St1 (LBE b s at_ T M v0) := fun v w1 w2 h hB => ⟨h.e, LB.st1 _ _ _ _ _ v w1 w2 h.b hB⟩
structure LF_ (b : Nat) (s : ByteArray) (at_ : Nat) (T M : List Tk) (v : Value) (w : World) : Prop where
  f : Lx b s at_ T M w
theorem LF_.st1 (b : Nat) (s : ByteArray) (at_ : Nat) (T M : List Tk) : K3.St1 (LF_ b s at_ T M) := fun v w1 w2 h hB => ⟨h.f.below hB⟩
theorem LB.grow {b at_ : Nat} {s : ByteArray} {T M : List Tk} {v v' : Value} {w w' : World} {x : Tk} (h : LB b s at_ T M v w) (ho : w'.ownsRow (b + 1) 31 3 v' (T.length + [x].length) (LF tkV T ++ LF tkV [x])) (hg : w.grownBy w' v.ownBlock) (ha : v'.ownBlock = v.ownBlock ∨ v'.ownBlock = some w.heap.size) :
    LB b s at_ (T ++ [x]) M v' w' ∧ Below b w w' := by
  obtain ⟨u, mv, h1, h2, h3, h4⟩ := h.f
  have hB : Below (b + 1) w w' := (Below.refl _ _).grown hg (by have := lt_of_block h1; omega) (fun k hk => (h2.lt k hk).1)
  refine ⟨⟨u, mv, (hB.block b (by omega)).trans h1, by rw [List.length_append, LF_app]; exact ho, own_far h3 hg (fun g hgm e => h4 g e hgm), fun g hv hm => ?_⟩, hB.mono (by omega)⟩
  rcases ha with e | e
  · exact h4 g (e.symm.trans hv) hm
  · rw [e] at hv
    have h5 := (own_lt h3 hm).2
    simp only [Option.some.injEq] at hv
    omega
theorem LB.store {b at_ : Nat} {s : ByteArray} {T M : List Tk} {v : Value} {w : World} (h : LB b s at_ T M v w) : Lx b s at_ T M (w.setCell ⟨b, 2, none⟩ v) := by
  obtain ⟨u, mv, h1, h2, h3, h4⟩ := h.f
  refine ⟨v, mv, ?_, ownsRow_setCell_below h2 (by show b < b + 1; omega) _, ownsRow_setCell_below h3 (by show b < b + 1; omega) _, h4⟩
  have h := block_set (i := 2) (u := v) h1
  simpa using h
theorem out_append_k3 {P : Program} {o : Oper} {ρ : Operand → Value} {w w' : World} {v u v' : Value} {φ : Value → World → Prop} (s x : Operand) (t : TypeId) (ho : o.op = .call { callee := .builtin .append, args := #[s, x], argTypes := #[t, t] })
    (hs : ρ s = v) (hx : ρ x = u) (hr : (Builtin.append_ #[t, t] o.type #[v, u]).run P w = .ok v' w') (hφ : φ v' w') : K3.Out P o ρ w φ := by
  refine K3.out_run (v := v') (w' := w') ?_ hφ
  unfold execOp
  simp only [ho, resolve, invoke, builtin, Sem.run_bind, Sem.run_pure, Result.andThen_ok, List.map_toArray, List.map_cons, List.map_nil, hs, hx, hr]
theorem out_buildSlice3 {P : Program} {o : Oper} {ρ : Operand → Value} {w w' : World} {φ : Value → World → Prop} {ty : TypeId} {n : Nat} {parts : Array (Nat × Operand)} {ps : Array (Nat × Value)} {v : Value} (ho : o.op = .buildSlice ty n parts) (hx : (parts.map fun (i, x) => (i, ρ x)) = ps) (hr : (Instr.buildSlice ty n ps).run P w = .ok v w') (hφ : φ v w') : K3.Out P o ρ w φ := by
  refine K3.out_run (v := v) (w' := w') ?_ hφ
  unfold execOp
  simp only [ho, hx, Sem.run_bind, Sem.run_pure, Result.andThen_ok, hr]
theorem out_load3 {P : Program} {o : Oper} {ρ : Operand → Value} {w : World} {φ : Value → World → Prop} {ty : TypeId} {x : Operand} {p : Addr} {v : Value} (ho : o.op = .load ty x) (hx : ρ x = .pointer (some p)) (hr : (loadVar ty p).run P w = .ok v w) (hφ : φ v w) : K3.Out P o ρ w φ := by
  refine K3.out_run (v := v) (w' := w) ?_ hφ
  unfold execOp
  simp only [ho, hx, Instr.loadAt, Instr.sureAddr, Sem.run_bind, Sem.run_pure, Result.andThen_ok, hr]
theorem out_store1 {o : Oper} {ρ : Operand → Value} {w : World} {φ : Value → World → Prop} {x y : Operand} {B i t : Nat} {p : Option Addr} {n c : Nat} {R : Array Value} (ho : o.op = .store 23 x y) (hx : ρ x = .pointer (some ⟨B, i, none⟩)) (hy : ρ y = .slice p n c)
    (hg : w.heap[B]? = some (.cells R t (0, 0))) (hi : i < R.size) (hφ : φ undef (w.setCell ⟨B, i, none⟩ (.slice p n c))) : K3.Out Tryd.prog o ρ w φ := by
  have hc : w.cell? ⟨B, i, none⟩ = some R[i] := by simp [World.cell?, hg, hi]
  have hf : w.frozen? ⟨B, i, none⟩ = false := by simp [World.frozen?, hg]
  have hw : (storeVar 23 ⟨B, i, none⟩ (.slice p n c)).run Tryd.prog w = .ok () (w.setCell ⟨B, i, none⟩ (.slice p n c)) := by
    simp [storeVar, go_sem, hc, hf]
  unfold K3.Out execOp
  simp only [ho, hx, hy, Instr.storeAt, Instr.sureAddr, Sem.run_bind, Sem.run_pure, Result.andThen_ok, hw]
  exact hφ
theorem slice_tk (w : World) (x : Tk) : (Instr.buildSlice 23 1 #[(0, .agg (tkV x).toArray)]).run Tryd.prog w = .ok (.slice (some ⟨w.heap.size, 0, none⟩) 1 1) (w.alloc (.cells (tkV x).toArray 31)) := by
  simp [tkV, go_sem, Instr.buildSlice]
theorem build_tk (w : World) (k a : Nat) (t : ByteArray) : (Instr.build 31 #[(0, .int .i64 k), (1, .string t), (2, .int .i64 a)]).run Tryd.prog w = .ok (.agg (tkV (k, t, a)).toArray) w := by
  simp [tkV, go_sem, Instr.build]

theorem slice_str (s : ByteArray) (i j : Nat) (h1 : i ≤ j) (h2 : j ≤ s.size) (w : World) : (Instr.sliceAt 9 (.string s) (some (.int .i64 (i : Nat))) (some (.int .i64 (j : Nat))) none).run Tryd.prog w = .ok (.string (s.extract i j)) w := by
  have h3 : (i : Int) ≤ j := by omega
  have h4 : (j : Int) ≤ s.size := by omega
  simp [Instr.sliceAt, go_sem, h1, h2, h3, h4]
set_option maxRecDepth 100000 in
set_option maxHeartbeats 4000000 in
theorem put_any (b : Nat) (s : ByteArray) (at_ k i j : Nat) (T M : List Tk) (w : World) (h : Lx b s at_ T M w) (h1 : i ≤ j) (h2 : j ≤ s.size) (hs : s.size ≤ 1048576) (hT : T.length ≤ 16777216) :
    Calls Tryd.prog 48 #[.pointer (some ⟨b, 0, none⟩), .int .i64 (k : Nat), .int .i64 (i : Nat), .int .i64 (j : Nat)] w fun e w' => e = .returned (.tuple #[]) ∧ Lx b s at_ (T ++ [(k, s.extract i j, i)]) M w' ∧ Below b w w' := by
  have hlt := h.lt
  obtain ⟨tv, mv, hbox, hoT, hoM, hap⟩ := h.f
  obtain ⟨pt, ct, rfl⟩ := own_slice hoT
  obtain ⟨pm, cm, rfl⟩ := own_slice hoM
  have Hsl := Lib.hid (slice_str s i j h1 h2)
  have hd4 : Below w.heap.size w w.drew := (Below.refl _ _).drew
  clear h
  go_enter Tryd.func48, Tryd.ntmps48
  have hRL : ∃ Rs : List (Value → World → Prop), Rs = [K3.PureV (.pointer (some ⟨b, 0, none⟩)),
      K3.PureV (.pointer (some ⟨b, 0, none⟩)),
      K3.PureV (.pointer (some ⟨b, 0, none⟩)),
      K3.PureV (.pointer (some ⟨b, 2, none⟩)),
      LBE b s at_ T M (.slice pt T.length ct),
      K3.PureV (.int .i64 (k : Nat)),
      K3.PureV (.pointer (some ⟨b, 0, none⟩)),
      K3.PureV (.pointer (some ⟨b, 0, none⟩)),
      K3.PureV (.pointer (some ⟨b, 0, none⟩)),
      K3.PureV (.string s),
      K3.PureV (.int .i64 (i : Nat)),
      K3.PureV (.int .i64 (j : Nat)),
      K3.PureV (.string (s.extract i j)),
      K3.PureV (.int .i64 (i : Nat)),
      K3.PureV (.agg (tkV (k, s.extract i j, i)).toArray),
      K3.NewB 1 (tkV (k, s.extract i j, i)).toArray 31,
      LB b s at_ (T ++ [(k, s.extract i j, i)]) M,
      K3.PureV (.pointer (some ⟨b, 0, none⟩)),
      K3.PureV (.pointer (some ⟨b, 2, none⟩)),
      LF_ b s at_ (T ++ [(k, s.extract i j, i)]) M] := ⟨_, rfl⟩
  obtain ⟨Rs, hRs⟩ := hRL
  refine K3.wp_region_rel2 b (by omega) (K3.RL Rs) [2, 2, 2, 2, 1, 2, 2, 2, 2, 2, 2, 2, 2, 2, 2, 1, 1, 2, 2, 1] [1, 1, 1, 1, 1, 1, 1, 1, 1, 1, 1, 1, 1, 1, 1, 1, 2, 1, 1, 2] [[], [], [], [], [], [], [], [], [], [], [], [], [], [], [], [], [4, 15], [], [], [4, 15, 16]] (by kernel_rfl) (by kernel_rfl) (K3.RL.st1 (by rw [hRs]; exact K3.st1_cons (K3.PureV.st1 _) (K3.st1_cons (K3.PureV.st1 _) (K3.st1_cons (K3.PureV.st1 _) (K3.st1_cons (K3.PureV.st1 _) (K3.st1_cons (LBE.st1 _ _ _ _ _ _) (K3.st1_cons (K3.PureV.st1 _) (K3.st1_cons (K3.PureV.st1 _) (K3.st1_cons (K3.PureV.st1 _) (K3.st1_cons (K3.PureV.st1 _) (K3.st1_cons (K3.PureV.st1 _) (K3.st1_cons (K3.PureV.st1 _) (K3.st1_cons (K3.PureV.st1 _) (K3.st1_cons (K3.PureV.st1 _) (K3.st1_cons (K3.PureV.st1 _) (K3.st1_cons (K3.PureV.st1 _) (K3.st1_cons (K3.NewB.st1 _ _ _) (K3.st1_cons (LB.st1 _ _ _ _ _) (K3.st1_cons (K3.PureV.st1 _) (K3.st1_cons (K3.PureV.st1 _) (K3.st1_cons (LF_.st1 _ _ _ _ _) (K3.st1_nil)))))))))))))))))))))) (K3.RL.st2 (by rw [hRs]; exact K3.st2_cons (K3.PureV.st2 _ _ _) (K3.st2_cons (K3.PureV.st2 _ _ _) (K3.st2_cons (K3.PureV.st2 _ _ _) (K3.st2_cons (K3.PureV.st2 _ _ _) (K3.st2_skip (K3.st2_cons (K3.PureV.st2 _ _ _) (K3.st2_cons (K3.PureV.st2 _ _ _) (K3.st2_cons (K3.PureV.st2 _ _ _) (K3.st2_cons (K3.PureV.st2 _ _ _) (K3.st2_cons (K3.PureV.st2 _ _ _) (K3.st2_cons (K3.PureV.st2 _ _ _) (K3.st2_cons (K3.PureV.st2 _ _ _) (K3.st2_cons (K3.PureV.st2 _ _ _) (K3.st2_cons (K3.PureV.st2 _ _ _) (K3.st2_cons (K3.PureV.st2 _ _ _) (K3.st2_skip (K3.st2_skip (K3.st2_cons (K3.PureV.st2 _ _ _) (K3.st2_cons (K3.PureV.st2 _ _ _) (K3.st2_skip (K3.st2_nil)))))))))))))))))))))) ?_ ?_ ?_
  · intro i o d hi hd
    have hmem := List.mem_of_getElem? hi
    simp only [List.mem_cons, List.not_mem_nil, or_false] at hmem
    rcases hmem with rfl | rfl | rfl | rfl | rfl | rfl | rfl | rfl | rfl | rfl | rfl | rfl | rfl | rfl | rfl | rfl | rfl | rfl | rfl | rfl <;> simp at hd <;> (subst hd; simp)
  · refine K3.rel_start (Φ := K3.Hop _ _ _ _ _ _ _) ?_
    refine K3.rel_cons (Φ := K3.Hop _ _ _ _ _ _ _) (k := 0) ?_ ?_
    · intro fa fw hfB hfN hfE hfk hft
      have k0 : fa.eval (.tmp 0) = .pointer (some ⟨b, 0, none⟩) := hft 0 (K3.mem_looks (by kernel_rfl)) (K3.noneed (by kernel_rfl))
      rw [hRs]
      refine K3.hop_plain rfl ?_
      refine K3.out_move rfl ?_
      exact ⟨k0, Below.refl _ _⟩
    refine K3.rel_cons (Φ := K3.Hop _ _ _ _ _ _ _) (k := 1) ?_ ?_
    · intro fa fw hfB hfN hfE hfk hft
      have k0 : fa.eval (.tmp 0) = .pointer (some ⟨b, 0, none⟩) := hft 0 (K3.mem_looks (by kernel_rfl)) (K3.noneed (by kernel_rfl))
      rw [hRs]
      refine K3.hop_plain rfl ?_
      refine K3.out_move rfl ?_
      exact ⟨k0, Below.refl _ _⟩
    refine K3.rel_cons (Φ := K3.Hop _ _ _ _ _ _ _) (k := 2) ?_ ?_
    · intro fa fw hfB hfN hfE hfk hft
      have k9 : fa.eval (.tmp 9) = (.pointer (some ⟨b, 0, none⟩)) := by have := hfk 1 (K3.mem_needs (by kernel_rfl)) _ rfl; rw [hRs] at this; exact this
      rw [hRs]
      refine K3.hop_plain rfl ?_
      generalize fa.eval = ρ at *
      exact K3.out_run (v := .pointer (some ⟨b, 0, none⟩)) (w' := fw) (by simp [execOp, k9, go_sem]) ⟨rfl, Below.refl _ _⟩
    refine K3.rel_cons (Φ := K3.Hop _ _ _ _ _ _ _) (k := 3) ?_ ?_
    · intro fa fw hfB hfN hfE hfk hft
      have k10 : fa.eval (.tmp 10) = (.pointer (some ⟨b, 0, none⟩)) := by have := hfk 2 (K3.mem_needs (by kernel_rfl)) _ rfl; rw [hRs] at this; exact this
      rw [hRs]
      refine K3.hop_plain rfl ?_
      generalize fa.eval = ρ at *
      exact K3.out_run (v := .pointer (some ⟨b, 2, none⟩)) (w' := fw) (by simp [execOp, k10, go_sem]) ⟨rfl, Below.refl _ _⟩
    refine K3.rel_cons (Φ := K3.Hop _ _ _ _ _ _ _) (k := 4) ?_ ?_
    · intro fa fw hfB hfN hfE hfk hft
      have hE : Below w.drew.heap.size w.drew fw := hfE (by kernel_rfl)
      have k11 : fa.eval (.tmp 11) = (.pointer (some ⟨b, 2, none⟩)) := by have := hfk 3 (K3.mem_needs (by kernel_rfl)) _ rfl; rw [hRs] at this; exact this
      rw [hRs]
      refine K3.hop_plain rfl ?_
      have hbx := (hE.block b (Nat.lt_of_lt_of_le hlt hd4.size)).trans (show w.drew.heap[b]? = _ from hbox)
      exact out_load3 rfl k11 (by simp [go_sem, block_cell hbx]) ⟨⟨rfl, _, .slice pm M.length cm, hbx, gen_own_below hoT (hd4.trans (hE.mono hd4.size)), gen_own_below hoM (hd4.trans (hE.mono hd4.size)), hap⟩, Below.refl _ _⟩
    refine K3.rel_cons (Φ := K3.Hop _ _ _ _ _ _ _) (k := 5) ?_ ?_
    · intro fa fw hfB hfN hfE hfk hft
      have k1 : fa.eval (.tmp 1) = .int .i64 (k : Nat) := hft 1 (K3.mem_looks (by kernel_rfl)) (K3.noneed (by kernel_rfl))
      rw [hRs]
      refine K3.hop_plain rfl ?_
      refine K3.out_move rfl ?_
      exact ⟨k1, Below.refl _ _⟩
    refine K3.rel_cons (Φ := K3.Hop _ _ _ _ _ _ _) (k := 6) ?_ ?_
    · intro fa fw hfB hfN hfE hfk hft
      have k0 : fa.eval (.tmp 0) = .pointer (some ⟨b, 0, none⟩) := hft 0 (K3.mem_looks (by kernel_rfl)) (K3.noneed (by kernel_rfl))
      rw [hRs]
      refine K3.hop_plain rfl ?_
      refine K3.out_move rfl ?_
      exact ⟨k0, Below.refl _ _⟩
    refine K3.rel_cons (Φ := K3.Hop _ _ _ _ _ _ _) (k := 7) ?_ ?_
    · intro fa fw hfB hfN hfE hfk hft
      have k14 : fa.eval (.tmp 14) = (.pointer (some ⟨b, 0, none⟩)) := by have := hfk 6 (K3.mem_needs (by kernel_rfl)) _ rfl; rw [hRs] at this; exact this
      rw [hRs]
      refine K3.hop_plain rfl ?_
      generalize fa.eval = ρ at *
      exact K3.out_run (v := .pointer (some ⟨b, 0, none⟩)) (w' := fw) (by simp [execOp, k14, go_sem]) ⟨rfl, Below.refl _ _⟩
    refine K3.rel_cons (Φ := K3.Hop _ _ _ _ _ _ _) (k := 8) ?_ ?_
    · intro fa fw hfB hfN hfE hfk hft
      have k15 : fa.eval (.tmp 15) = (.pointer (some ⟨b, 0, none⟩)) := by have := hfk 7 (K3.mem_needs (by kernel_rfl)) _ rfl; rw [hRs] at this; exact this
      rw [hRs]
      refine K3.hop_plain rfl ?_
      generalize fa.eval = ρ at *
      exact K3.out_run (v := .pointer (some ⟨b, 0, none⟩)) (w' := fw) (by simp [execOp, k15, go_sem]) ⟨rfl, Below.refl _ _⟩
    refine K3.rel_cons (Φ := K3.Hop _ _ _ _ _ _ _) (k := 9) ?_ ?_
    · intro fa fw hfB hfN hfE hfk hft
      have hE : Below w.drew.heap.size w.drew fw := hfE (by kernel_rfl)
      have k16 : fa.eval (.tmp 16) = (.pointer (some ⟨b, 0, none⟩)) := by have := hfk 8 (K3.mem_needs (by kernel_rfl)) _ rfl; rw [hRs] at this; exact this
      rw [hRs]
      refine K3.hop_plain rfl ?_
      have hbx := (hE.block b (Nat.lt_of_lt_of_le hlt hd4.size)).trans (show w.drew.heap[b]? = _ from hbox)
      exact out_load3 rfl k16 (by simp [go_sem, block_cell hbx]) ⟨rfl, Below.refl _ _⟩
    refine K3.rel_cons (Φ := K3.Hop _ _ _ _ _ _ _) (k := 10) ?_ ?_
    · intro fa fw hfB hfN hfE hfk hft
      have k2 : fa.eval (.tmp 2) = .int .i64 (i : Nat) := hft 2 (K3.mem_looks (by kernel_rfl)) (K3.noneed (by kernel_rfl))
      rw [hRs]
      refine K3.hop_plain rfl ?_
      refine K3.out_move rfl ?_
      exact ⟨k2, Below.refl _ _⟩
    refine K3.rel_cons (Φ := K3.Hop _ _ _ _ _ _ _) (k := 11) ?_ ?_
    · intro fa fw hfB hfN hfE hfk hft
      have k3 : fa.eval (.tmp 3) = .int .i64 (j : Nat) := hft 3 (K3.mem_looks (by kernel_rfl)) (K3.noneed (by kernel_rfl))
      rw [hRs]
      refine K3.hop_plain rfl ?_
      refine K3.out_move rfl ?_
      exact ⟨k3, Below.refl _ _⟩
    refine K3.rel_cons (Φ := K3.Hop _ _ _ _ _ _ _) (k := 12) ?_ ?_
    · intro fa fw hfB hfN hfE hfk hft
      have k17 : fa.eval (.tmp 17) = (.string s) := by have := hfk 9 (K3.mem_needs (by kernel_rfl)) _ rfl; rw [hRs] at this; exact this
      have k18 : fa.eval (.tmp 18) = (.int .i64 (i : Nat)) := by have := hfk 10 (K3.mem_needs (by kernel_rfl)) _ rfl; rw [hRs] at this; exact this
      have k19 : fa.eval (.tmp 19) = (.int .i64 (j : Nat)) := by have := hfk 11 (K3.mem_needs (by kernel_rfl)) _ rfl; rw [hRs] at this; exact this
      rw [hRs]
      refine K3.hop_plain rfl ?_
      generalize fa.eval = ρ at *
      exact K3.out_run (v := .string (s.extract i j)) (w' := fw) (by unfold execOp; simp only [Option.map, k17, k18, k19, Sem.run_bind, Hsl.out, Result.andThen_ok, Sem.run_pure]) ⟨rfl, Below.refl _ _⟩
    refine K3.rel_cons (Φ := K3.Hop _ _ _ _ _ _ _) (k := 13) ?_ ?_
    · intro fa fw hfB hfN hfE hfk hft
      have k2 : fa.eval (.tmp 2) = .int .i64 (i : Nat) := hft 2 (K3.mem_looks (by kernel_rfl)) (K3.noneed (by kernel_rfl))
      rw [hRs]
      refine K3.hop_plain rfl ?_
      refine K3.out_move rfl ?_
      exact ⟨k2, Below.refl _ _⟩
    refine K3.rel_cons (Φ := K3.Hop _ _ _ _ _ _ _) (k := 14) ?_ ?_
    · intro fa fw hfB hfN hfE hfk hft
      have k13 : fa.eval (.tmp 13) = (.int .i64 (k : Nat)) := by have := hfk 5 (K3.mem_needs (by kernel_rfl)) _ rfl; rw [hRs] at this; exact this
      have k20 : fa.eval (.tmp 20) = (.string (s.extract i j)) := by have := hfk 12 (K3.mem_needs (by kernel_rfl)) _ rfl; rw [hRs] at this; exact this
      have k21 : fa.eval (.tmp 21) = (.int .i64 (i : Nat)) := by have := hfk 13 (K3.mem_needs (by kernel_rfl)) _ rfl; rw [hRs] at this; exact this
      rw [hRs]
      refine K3.hop_plain rfl ?_
      generalize fa.eval = ρ at *
      exact K3.out_run (v := .agg (tkV (k, s.extract i j, i)).toArray) (w' := fw) (by unfold execOp; simp only [List.map_toArray, List.map_cons, List.map_nil, k13, k20, k21, Sem.run_bind, build_tk, Result.andThen_ok, Sem.run_pure]) ⟨rfl, Below.refl _ _⟩
    refine K3.rel_cons (Φ := K3.Hop _ _ _ _ _ _ _) (k := 15) ?_ ?_
    · intro fa fw hfB hfN hfE hfk hft
      have k22 : fa.eval (.tmp 22) = (.agg (tkV (k, s.extract i j, i)).toArray) := by have := hfk 14 (K3.mem_needs (by kernel_rfl)) _ rfl; rw [hRs] at this; exact this
      rw [hRs]
      refine K3.hop_plain rfl ?_
      exact out_buildSlice3 rfl (by simp only [List.map_toArray, List.map_cons, List.map_nil, k22]) (slice_tk fw (k, s.extract i j, i)) ⟨⟨_, rfl, heap_alloc_new _ _⟩, (Below.refl _ _).alloc (Nat.le_refl _) _⟩
    refine K3.rel_cons (Φ := K3.Hop _ _ _ _ _ _ _) (k := 16) ?_ ?_
    · intro fa fw hfB hfN hfE hfk hft
      have k12 : (LBE b s at_ T M (.slice pt T.length ct)) (fa.eval (.tmp 12)) fw := by have := hfk 4 (K3.mem_needs (by kernel_rfl)) _ rfl; rw [hRs] at this; exact this
      have k23 : (K3.NewB 1 (tkV (k, s.extract i j, i)).toArray 31) (fa.eval (.tmp 23)) fw := by have := hfk 15 (K3.mem_needs (by kernel_rfl)) _ rfl; rw [hRs] at this; exact this
      rw [hRs]
      refine K3.hop_plain rfl ?_
      obtain ⟨hv0, hb0⟩ := k12
      obtain ⟨B1, hb1, hb2⟩ := k23
      rw [hv0] at hb0
      obtain ⟨u0, mv0, g1, g2, g3, g4⟩ := hb0.f
      obtain ⟨v', w', hr, ho, hg, ha⟩ := run_append_gen2 eltT fw (b + 1) _ _ _ _ [(k, s.extract i j, i)] g2 (LAt.block rfl rfl hb2) (by simp only [List.length_cons, List.length_nil]; omega) (by unfold maxLen; simp only [List.length_cons, List.length_nil]; omega) (by have := lt_of_block g1; omega)
      obtain ⟨q1, q2⟩ := hb0.grow ho hg ha
      exact out_append_k3 (.tmp 12) (.tmp 23) 23 rfl hv0 hb1 hr ⟨q1, q2⟩
    refine K3.rel_cons (Φ := K3.Hop _ _ _ _ _ _ _) (k := 17) ?_ ?_
    · intro fa fw hfB hfN hfE hfk hft
      have k8 : fa.eval (.tmp 8) = (.pointer (some ⟨b, 0, none⟩)) := by have := hfk 0 (K3.mem_needs (by kernel_rfl)) _ rfl; rw [hRs] at this; exact this
      rw [hRs]
      refine K3.hop_plain rfl ?_
      generalize fa.eval = ρ at *
      exact K3.out_run (v := .pointer (some ⟨b, 0, none⟩)) (w' := fw) (by simp [execOp, k8, go_sem]) ⟨rfl, Below.refl _ _⟩
    refine K3.rel_cons (Φ := K3.Hop _ _ _ _ _ _ _) (k := 18) ?_ ?_
    · intro fa fw hfB hfN hfE hfk hft
      have k25 : fa.eval (.tmp 25) = (.pointer (some ⟨b, 0, none⟩)) := by have := hfk 17 (K3.mem_needs (by kernel_rfl)) _ rfl; rw [hRs] at this; exact this
      rw [hRs]
      refine K3.hop_plain rfl ?_
      generalize fa.eval = ρ at *
      exact K3.out_run (v := .pointer (some ⟨b, 2, none⟩)) (w' := fw) (by simp [execOp, k25, go_sem]) ⟨rfl, Below.refl _ _⟩
    refine K3.rel_cons (Φ := K3.Hop _ _ _ _ _ _ _) (k := 19) ?_ ?_
    · intro fa fw hfB hfN hfE hfk hft
      have k26 : fa.eval (.tmp 26) = (.pointer (some ⟨b, 2, none⟩)) := by have := hfk 18 (K3.mem_needs (by kernel_rfl)) _ rfl; rw [hRs] at this; exact this
      have k24 : (LB b s at_ (T ++ [(k, s.extract i j, i)]) M) (fa.eval (.tmp 24)) fw := by have := hfk 16 (K3.mem_needs (by kernel_rfl)) _ rfl; rw [hRs] at this; exact this
      rw [hRs]
      refine K3.hop_plain rfl ?_
      obtain ⟨u0, mv0, g1, g2, g3, g4⟩ := k24.f
      obtain ⟨p6, c6, hv6⟩ := own_slice g2
      have hst := k24.store
      rw [hv6] at hst
      exact out_store1 rfl k26 (show fa.eval (.tmp 24) = _ from hv6) g1 (by simp) ⟨⟨hst⟩, (Below.refl b fw).setCell (p := ⟨b, 2, none⟩) (Nat.le_refl b) _⟩
    exact K3.rel_nil
  · intro fa fw hfB hfy hff hfs hfd
    rw [hRs] at hfy
    have k26 : LF_ b s at_ (T ++ [(k, s.extract i j, i)]) M (fa.tmps.getD 26 undef) fw := hfy 19 _ rfl (K3.unkilled (by decide))
    have hBf : Below b w fw := (hd4.mono (by omega)).trans hfB
    have e := K3.rel_frame [8, 9, 10, 11, 12, 13, 14, 15, 16, 17, 18, 19, 20, 21, 22, 23, 24, 25, 26] (by kernel_rfl) hff hfs hfd
    simp only [List.foldl] at e
    clear hfy hff hfs hfd 
    generalize fa.tmps.getD 8 undef = x8 at e
    generalize fa.tmps.getD 9 undef = x9 at e
    generalize fa.tmps.getD 10 undef = x10 at e
    generalize fa.tmps.getD 11 undef = x11 at e
    generalize fa.tmps.getD 12 undef = x12 at e
    generalize fa.tmps.getD 13 undef = x13 at e
    generalize fa.tmps.getD 14 undef = x14 at e
    generalize fa.tmps.getD 15 undef = x15 at e
    generalize fa.tmps.getD 16 undef = x16 at e
    generalize fa.tmps.getD 17 undef = x17 at e
    generalize fa.tmps.getD 18 undef = x18 at e
    generalize fa.tmps.getD 19 undef = x19 at e
    generalize fa.tmps.getD 20 undef = x20 at e
    generalize fa.tmps.getD 21 undef = x21 at e
    generalize fa.tmps.getD 22 undef = x22 at e
    generalize fa.tmps.getD 23 undef = x23 at e
    generalize fa.tmps.getD 24 undef = x24 at e
    generalize fa.tmps.getD 25 undef = x25 at e
    generalize fa.tmps.getD 26 undef = x26 at e k26
    simp [List.setIfInBounds_toArray, List.set_cons_succ, List.set_cons_zero] at e
    subst e
    have k27 := k26.f
    clear k26
    go_wp2_with fail
    exact bodyPost_end (v := .tuple #[]) (by simp [results, Tryd.results48]) rfl ⟨rfl, k27, hBf⟩
end Go.Proofs.YtejogobhnbjpdaaDoor
