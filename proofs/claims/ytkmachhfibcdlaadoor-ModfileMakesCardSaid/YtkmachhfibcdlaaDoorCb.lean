/- What was read of a go.mod: in memory; Walks: a module's path. -/
import Derived.Test.YtkmachhfibcdlaaDoorCa
import Derived.Lib.SlicesS
import Derived.Deep.CutRange
import Derived.Deep.MidRow
import Derived.Deep.DeepCutAuto
namespace Go.Proofs.YtkmachhfibcdlaaDoor
set_option linter.unusedVariables false
set_option linter.unusedSimpArgs false
open Go.ChangeShapes Go.WideShapes Go.ChangeAt Go.RowKit

theorem run_append_gen2 {t e : TypeId} {n by_ : Nat} {X : Type} {fl : X → List Value} (E : Elt t e n by_ fl) (w : World) (base : Nat) (v : Value) (m : Nat) (xs : List Value) (u : Value) (l : List X) (hown : w.ownsRow base e n v m xs) (hu : LAt n fl w u l) (hb : (m + l.length) * by_ ≤ 140737488355328) (hm63 : m + l.length ≤ maxLen) (hbase : base ≤ w.heap.size) :
    ∃ v' w', (Builtin.append_ #[t, t] t #[v, u]).run Tryd.prog w = .ok v' w' ∧ w'.ownsRow base e n v' (m + l.length) (xs ++ LF fl l) ∧ w.grownBy w' v.ownBlock ∧ (v'.ownBlock = v.ownBlock ∨ v'.ownBlock = some w.heap.size) := by
  obtain ⟨i0, z, hi, hz0, hz1, hz2, hzs⟩ := E.inf
  obtain ⟨hl, hu⟩ := hu
  rcases hu with ⟨p, cap, rfl, rfl⟩ | ⟨b, off, cap, rfl, hb2, hcap, hmax, hcell⟩
  · cases p with
    | none => exact ⟨v, w, gen_append_none base t t e i0 n cap E.tu hi v m xs hown, by simpa [LF] using hown, World.grownBy.refl _ _, .inl rfl⟩
    | some ad =>
      obtain ⟨v', w', h1, h2, h3, _, h4⟩ := run_append_own_at (P := Tryd.prog) w base t t e i0 z n by_ E.tu hi hz0 hz1 hz2 hzs E.pos v m xs hown ad 0 cap [] (by simp) (fun j u h => by simp at h) (fun u h => by simp at h) (by simpa using hm63) (by simpa using hb) hbase
      exact ⟨v', w', h1, by simpa [LF] using h2, h3, h4⟩
  · obtain ⟨v', w', h1, h2, h3, _, h4⟩ := run_append_own_at (P := Tryd.prog) w base t t e i0 z n by_ E.tu hi hz0 hz1 hz2 hzs E.pos v m xs hown ⟨b, off, none⟩ l.length cap (LF fl l) (LF_len l hl) (fun j y hj => by
      rw [gen_add_off]; exact hcell j y hj) (fun y hy => LF_mem E hy) hm63 hb hbase
    exact ⟨v', w', h1, h2, h3, h4⟩
theorem out_append_k3 {P : Program} {o : Oper} {ρ : Operand → Value} {w w' : World} {v u v' : Value} {φ : Value → World → Prop} (s x : Operand) (t : TypeId) (ho : o.op = .call { callee := .builtin .append, args := #[s, x], argTypes := #[t, t] })
    (hs : ρ s = v) (hx : ρ x = u) (hr : (Builtin.append_ #[t, t] o.type #[v, u]).run P w = .ok v' w') (hφ : φ v' w') : K3.Out P o ρ w φ := by
  refine K3.out_run (v := v') (w' := w') ?_ hφ
  unfold execOp
  simp only [ho, resolve, invoke, builtin, Sem.run_bind, Sem.run_pure, Result.andThen_ok, List.map_toArray, List.map_cons, List.map_nil, hs, hx, hr]
theorem out_buildSlice3 {P : Program} {o : Oper} {ρ : Operand → Value} {w w' : World} {φ : Value → World → Prop} {ty : TypeId} {n : Nat} {parts : Array (Nat × Operand)} {ps : Array (Nat × Value)} {v : Value} (ho : o.op = .buildSlice ty n parts) (hx : (parts.map fun (i, x) => (i, ρ x)) = ps) (hr : (Instr.buildSlice ty n ps).run P w = .ok v w') (hφ : φ v w') : K3.Out P o ρ w φ := by
  refine K3.out_run (v := v) (w' := w') ?_ hφ
  unfold execOp
  simp only [ho, hx, Sem.run_bind, Sem.run_pure, Result.andThen_ok, hr]
theorem out_build3 {P : Program} {o : Oper} {ρ : Operand → Value} {w : World} {φ : Value → World → Prop} {ty : TypeId} {parts : Array (Nat × Operand)} {ps : Array (Nat × Value)} {v : Value} (ho : o.op = .build ty parts) (hx : (parts.map fun (i, x) => (i, ρ x)) = ps) (hr : (Instr.build ty ps).run P w = .ok v w) (hφ : φ v w) : K3.Out P o ρ w φ := by
  refine K3.out_run (v := v) (w' := w) ?_ hφ
  unfold execOp
  simp only [ho, hx, Sem.run_bind, Sem.run_pure, Result.andThen_ok, hr]
theorem out_load3 {P : Program} {o : Oper} {ρ : Operand → Value} {w : World} {φ : Value → World → Prop} {ty : TypeId} {x : Operand} {p : Addr} {v : Value} (ho : o.op = .load ty x) (hx : ρ x = .pointer (some p)) (hr : (loadVar ty p).run P w = .ok v w) (hφ : φ v w) : K3.Out P o ρ w φ := by
  refine K3.out_run (v := v) (w' := w) ?_ hφ
  unfold execOp
  simp only [ho, hx, Instr.loadAt, Instr.sureAddr, Sem.run_bind, Sem.run_pure, Result.andThen_ok, hr]
/-- A path, and the directory that it is replaced by. -/
abbrev Rp := ByteArray × ByteArray
def rpV (t : Rp) : List Value := [.string t.1, .string t.2]
theorem rpV_len (t : Rp) : (rpV t).length = 2 := rfl
theorem rpV_one : ∀ (x : Rp), ∀ u ∈ rpV x, u.oneCell' = true := fun x u hu => by
  simp only [rpV, List.mem_cons, List.not_mem_nil, or_false] at hu
  rcases hu with rfl | rfl <;> rfl
theorem eltR : Elt 25 34 2 32 rpV := ⟨Tryd.underlying25, by kernel_rfl, info_elt (by kernel_rfl), by decide, rpV_one⟩
/-- What was read so far. -/
structure MR where
  path : ByteArray
  lvl : Int
  reps : List Rp
  lev : Bool
  blk : ByteArray
def mrA (p : ByteArray) (l : Int) (rv : Value) (v : Bool) (k : ByteArray) : Array Value := #[.string p, .int .i64 l, rv, .int .i64 0, .bool v, .string k]
/-- A reader at b; block L is another's. -/
structure RdM (b L : Nat) (R : MR) (w : World) : Prop where
  f : ∃ rv, w.heap[b]? = some (.cells (mrA R.path R.lvl rv R.lev R.blk) 39 (0, 0)) ∧ w.ownsRow (b + 1) 34 2 rv R.reps.length (LF rpV R.reps) ∧ rv.ownBlock ≠ some L
  ne : L ≠ b
  lt : L < w.heap.size
theorem RdM.below {b L : Nat} {R : MR} {w w' : World} (h : RdM b L R w) (hB : Below w.heap.size w w') : RdM b L R w' := by
  obtain ⟨rv, h1, h2, h3⟩ := h.f
  exact ⟨⟨rv, (hB.block _ (lt_of_block h1)).trans h1, gen_own_below h2 hB, h3⟩, h.ne, Nat.lt_of_lt_of_le h.lt hB.size⟩
theorem RdM.bl {b L : Nat} {R : MR} {w : World} (h : RdM b L R w) : b < w.heap.size := by
  obtain ⟨rv, h1, _⟩ := h.f; exact lt_of_block h1
/-- Nothing below b turns, nor block L. -/
structure Kept (b L : Nat) (w w' : World) : Prop where
  lo : Below b w w'
  at_ : w'.heap[L]? = w.heap[L]?
theorem Kept.refl (b L : Nat) (w : World) : Kept b L w w := ⟨Below.refl _ _, rfl⟩
theorem Kept.trans {b L : Nat} {w1 w2 w3 : World} (h : Kept b L w1 w2) (k : Kept b L w2 w3) : Kept b L w1 w3 := ⟨h.lo.trans k.lo, k.at_.trans h.at_⟩
theorem RdM.of {b L : Nat} {R : MR} {w w' : World} (h : RdM b L R w) (hB : Below w.heap.size w w') : Kept b L w w' := ⟨hB.mono (Nat.le_of_lt h.bl), hB.block _ h.lt⟩
theorem kept_set {b L i : Nat} {w : World} {v : Value} (hne : L ≠ b) : Kept b L w (w.setCell ⟨b, i, none⟩ v) := by
  refine ⟨(Below.refl b w).setCell (p := ⟨b, i, none⟩) (Nat.le_refl b) _, ?_⟩
  show (w.heap.modify b _)[L]? = _
  rw [Array.getElem?_modify, if_neg (fun e => hne e.symm)]
theorem RdM.set {b L i : Nat} {R R' : MR} {v : Value} {w : World} (h : RdM b L R w) (hr : R'.reps = R.reps) (ha : ∀ rv, (mrA R.path R.lvl rv R.lev R.blk).setIfInBounds i v = mrA R'.path R'.lvl rv R'.lev R'.blk) : RdM b L R' (w.setCell ⟨b, i, none⟩ v) ∧ Kept b L w (w.setCell ⟨b, i, none⟩ v) := by
  refine ⟨?_, kept_set h.ne⟩
  obtain ⟨rv, h1, h2, h3⟩ := h.f
  refine ⟨⟨rv, ?_, ?_, h3⟩, h.ne, by have := h.lt; simpa [World.setCell] using this⟩
  · rw [← ha rv]
    exact block_set h1
  · rw [hr]
    exact ownsRow_setCell_below h2 (by show b < b + 1; omega) _
theorem Strs.cells {w : World} {p : Option Addr} {n cap : Nat} {ss : List ByteArray} (h : Strs w (.slice p n cap) ss) : n = ss.length ∧ (0 < ss.length → ss.length ≤ cap ∧ cap ≤ maxLen ∧ ∃ b off, p = some ⟨b, off, none⟩ ∧ b < w.heap.size ∧ ∀ i (h : i < ss.length), w.cell? ⟨b, off + i, none⟩ = some (.string ss[i])) := by
  rcases h with ⟨⟨p', cap', hv⟩, rfl⟩ | ⟨b, off, cap', hv, hl, hm, hb, hc⟩
  · simp only [Value.slice.injEq] at hv
    exact ⟨hv.2.1, fun h => absurd h (Nat.lt_irrefl _)⟩
  · simp only [Value.slice.injEq] at hv
    obtain ⟨rfl, rfl, rfl⟩ := hv
    refine ⟨rfl, fun _ => ⟨hl, hm, b, off, rfl, hb, fun i hi => ?_⟩⟩
    have := hc i hi
    rw [List.getD_eq_getElem?_getD, List.getElem?_eq_getElem hi] at this
    exact this
/-- The module's path. -/
def moduleR (R : MR) (ws : List ByteArray) : Bool × MR :=
  if ws.length = 1 ∧ R.path = ⟨#[]⟩ ∧ pathB (ws.getD 0 ⟨#[]⟩) = true then (true, { R with path := ws.getD 0 ⟨#[]⟩ }) else (false, R)
set_option maxHeartbeats 1000000 in
theorem module_any (b L : Nat) (R : MR) (p : Option Addr) (n cap : Nat) (ws : List ByteArray) (w : World) (h : RdM b L R w) (hW : Strs w (.slice p n cap) ws) (hs : ∀ x ∈ ws, x.size ≤ 1048576) :
    Calls Tryd.prog 25 #[.pointer (some ⟨b, 0, none⟩), .slice p n cap] w fun e w' => e = .returned (.bool (moduleR R ws).1) ∧ RdM b L (moduleR R ws).2 w' ∧ Kept b L w w' := by
  obtain ⟨rfl, hp⟩ := hW.cells
  by_cases h1 : ws.length = 1
  case neg =>
    have e1 : ((ws.length : Int) == 1) = false := beq_eq_false_iff_ne.2 (by omega)
    have e1n := ne_of_eqb e1
    have HR := Lib.hid (show moduleR R ws = (false, R) by unfold moduleR; rw [if_neg (fun k => h1 k.1)])
    have H := Lib.hid h
    clear h hW hp
    go_enter Tryd.func25, Tryd.ntmps25
    go_wp2_with fail
    go_ret
    rw [HR.out]
    exact ⟨rfl, H.out, Kept.refl _ _ _⟩
  obtain ⟨x, rfl⟩ := List.length_eq_one_iff.1 h1
  obtain ⟨hc1, hc2, g, off, rfl, hg, hcell⟩ := hp (by simp)
  have hc0 := hcell 0 (by simp)
  rw [Nat.add_zero, List.getElem_cons_zero] at hc0
  have hx : x.size ≤ 1048576 := hs x (by simp)
  have HP := Lib.hid (path_any x w hx)
  have k0 := str_lit R.path #[]
  have HR := Lib.hid (show moduleR R [x] = if R.path = ⟨#[]⟩ ∧ pathB x = true then (true, { R with path := x }) else (false, R) by unfold moduleR; simp)
  have H := Lib.hid h
  obtain ⟨rv, hb, ho, hL⟩ := h.f
  have c0 := block_cell hb 0
  rw [show (mrA R.path R.lvl rv R.lev R.blk)[0]? = some (.string R.path) from rfl] at c0
  clear hcell hp hW h hb ho hL h1
  simp only [List.length_singleton] at *
  by_cases hp0 : R.path = ⟨#[]⟩
  case neg =>
    rw [decide_eq_false hp0] at k0
    have k0n := ne_of_eqb k0
    have hr := HR.out
    rw [if_neg (fun k => hp0 k.1)] at hr
    have HR2 := Lib.hid hr
    clear hr HR hp0
    go_enter Tryd.func25, Tryd.ntmps25
    go_wp2_with fail
    go_ret
    rw [HR2.out]
    exact ⟨rfl, H.out, Kept.refl _ _ _⟩
  rw [decide_eq_true hp0] at k0
  have k0n := ne_of_eqb k0
  have HR2 := Lib.hid (show moduleR R [x] = if pathB x = true then (true, { R with path := x }) else (false, R) by
    rw [HR.out]
    by_cases hq : pathB x = true
    · rw [if_pos ⟨hp0, hq⟩, if_pos hq]
    · rw [if_neg (fun k => hq k.2), if_neg hq])
  clear HR hp0
  generalize pathB x = pb at *
  go_enter Tryd.func25, Tryd.ntmps25
  go_wp2_with fail
  refine HP.out.mono ?_
  rintro r w1 ⟨rfl, hB⟩
  have H1 := Lib.hid (H.out.below hB)
  have HB := Lib.hid (H.out.of hB)
  have hc1 := (hB.cell (p := ⟨g, off, none⟩) hg).trans hc0
  obtain ⟨rv1, hb1, ho1, hL1⟩ := H1.out.f
  have d0 := block_cell hb1 0
  rw [show (mrA R.path R.lvl rv1 R.lev R.blk)[0]? = some (.string R.path) from rfl] at d0
  have e0 := block_free hb1 0
  clear hB hb1 ho1 hL1 c0 hc0
  cases pb
  · go_wp2_with fail
    go_ret
    rw [HR2.out]
    exact ⟨rfl, H1.out, HB.out⟩
  · go_wp2_with fail
    go_ret
    rw [HR2.out]
    obtain ⟨h1, h2⟩ := H1.out.set (i := 0) (R' := { R with path := x }) (v := .string x) rfl (fun _ => rfl)
    exact ⟨rfl, h1, HB.out.trans h2⟩
end Go.Proofs.YtkmachhfibcdlaaDoor
