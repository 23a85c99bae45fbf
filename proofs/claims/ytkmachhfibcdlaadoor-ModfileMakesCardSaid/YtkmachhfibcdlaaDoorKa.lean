/- Rows of tokens; how a row grows. -/
import Derived.Test.YtkmachhfibcdlaaDoorKt
import Derived.Test.YtkmachhfibcdlaaDoorSh
import Derived.Test.YtkmachhfibcdlaaDoorKw
import Derived.Deep.Onto
import Derived.Maps.AppendAt
namespace Go.Proofs.YtkmachhfibcdlaaDoor
set_option linter.unusedVariables false
set_option linter.unusedSimpArgs false
open Go.ChangeShapes Go.WideShapes Go.ChangeAt Go.RowKit
theorem block_cell {w : World} {b : Nat} {cur : Array Value} {t : TypeId} (h : w.heap[b]? = some (.cells cur t (0, 0))) (i : Nat) : w.cell? ⟨b, i, none⟩ = cur[i]? := by
  simp [World.cell?, h]
theorem block_free {w : World} {b : Nat} {cur : Array Value} {t : TypeId} (h : w.heap[b]? = some (.cells cur t (0, 0))) (i : Nat) : w.frozen? ⟨b, i, none⟩ = false := by
  simp [World.frozen?, h]
theorem block_set {w : World} {b i : Nat} {cur : Array Value} {u : Value} {t : TypeId} (h : w.heap[b]? = some (.cells cur t (0, 0))) : (w.setCell ⟨b, i, none⟩ u).heap[b]? = some (.cells (cur.setIfInBounds i u) t (0, 0)) := by
  have hlt := lt_of_block h
  have h' : w.heap[b] = .cells cur t (0, 0) := by simpa [Array.getElem?_eq_getElem hlt] using h
  show (w.heap.modify b _)[b]? = _
  rw [Array.getElem?_eq_getElem (by simpa using hlt), Array.getElem_modify_self, h']
  rfl

/-- Elements of a slice's type t: of type e, n cells, by bytes. -/
structure Elt (t e : TypeId) (n by_ : Nat) {X : Type} (fl : X → List Value) : Prop where
  tu : Tryd.prog.underlying t = some (.slice e)
  el : Tryd.prog.elem t = e
  inf : ∃ i z, Tryd.prog.info? e = some i ∧ i.zero = some z ∧ i.size = n ∧ i.bytes = by_ ∧ z.cells.size = n
  pos : 0 < n
  one : ∀ x, ∀ u ∈ fl x, u.oneCell' = true
def LF {X : Type} (fl : X → List Value) (l : List X) : List Value := l.flatMap fl
section
variable {t e : TypeId} {n by_ : Nat} {X : Type} {fl : X → List Value}
theorem LF_app (a b : List X) : LF fl (a ++ b) = LF fl a ++ LF fl b := by simp [LF]
theorem LF_one (x : X) : LF fl [x] = fl x := by simp [LF]
theorem LF_len : ∀ (l : List X), (∀ x ∈ l, (fl x).length = n) → (LF fl l).length = l.length * n
  | [], _ => by simp [LF]
  | x :: l, h => by
    have : LF fl (x :: l) = fl x ++ LF fl l := rfl
    rw [this, List.length_append, h x List.mem_cons_self, LF_len l (fun y hy => h y (List.mem_cons_of_mem _ hy)), List.length_cons, Nat.add_mul]
    omega
theorem LF_at : ∀ (l : List X), (∀ x ∈ l, (fl x).length = n) → ∀ (i : Nat) (x : X), l[i]? = some x → ∀ j, j < n → (LF fl l)[i * n + j]? = (fl x)[j]?
  | [], _, i, x, hx, j, hj => by simp at hx
  | y :: l, h, 0, x, hx, j, hj => by
    obtain rfl : y = x := by simpa using hx
    have : LF fl (y :: l) = fl y ++ LF fl l := rfl
    rw [this, Nat.zero_mul, Nat.zero_add, List.getElem?_append_left (by rw [h y List.mem_cons_self]; exact hj)]
  | y :: l, h, i + 1, x, hx, j, hj => by
    have : LF fl (y :: l) = fl y ++ LF fl l := rfl
    rw [this, List.getElem?_append_right (by rw [h y List.mem_cons_self, Nat.add_mul]; omega), h y List.mem_cons_self, show (i + 1) * n + j - n = i * n + j by rw [Nat.add_mul]; omega]
    exact LF_at l (fun y hy => h y (List.mem_cons_of_mem _ hy)) i x (by simpa using hx) j hj
theorem LF_mem (E : Elt t e n by_ fl) {l : List X} {u : Value} (h : u ∈ LF fl l) : u.oneCell' = true := by
  obtain ⟨x, _, hx⟩ := List.mem_flatMap.1 h
  exact E.one x u hx
/-- Elements in memory from a place on. -/
def LAt (n : Nat) (fl : X → List Value) (w : World) (u : Value) (l : List X) : Prop := (∀ x ∈ l, (fl x).length = n) ∧
  ((∃ p cap, u = .slice p 0 cap ∧ l = []) ∨ ∃ b off cap, u = .slice (some ⟨b, off, none⟩) l.length cap ∧ b < w.heap.size ∧ l.length ≤ cap ∧ cap ≤ maxLen ∧ ∀ j x, (LF fl l)[j]? = some x → w.cell? ⟨b, off + j, none⟩ = some x)
theorem LAt.below {w w' : World} {u : Value} {l : List X} (h : LAt n fl w u l) (hB : Below w.heap.size w w') : LAt n fl w' u l := by
  refine ⟨h.1, ?_⟩
  rcases h.2 with h | ⟨b, off, cap, h1, h2, h3, h4, h5⟩
  · exact .inl h
  · exact .inr ⟨b, off, cap, h1, Nat.lt_of_lt_of_le h2 hB.size, h3, h4, fun j x hx => (hB.cell (p := ⟨b, off + j, none⟩) h2).trans (h5 j x hx)⟩
theorem LAt.own {w : World} {base : Nat} {v : Value} {l : List X} (hl : ∀ x ∈ l, (fl x).length = n) (h : w.ownsRow base e n v l.length (LF fl l)) : LAt n fl w v l := by
  refine ⟨hl, ?_⟩
  rcases h.2 with ⟨hv, hn⟩ | ⟨g, cap, cur, hv, _, hg, hcap, hmax, hsz, htake⟩
  · exact .inl ⟨_, _, hv, List.eq_nil_of_length_eq_zero hn⟩
  · refine .inr ⟨g, 0, cap, hv, lt_of_block hg, hcap, hmax, fun j x hx => ?_⟩
    have hj := (List.getElem?_eq_some_iff.1 hx).1
    rw [LF_len l hl] at hj
    rw [block_cell hg, ← hx, ← htake, List.getElem?_take_of_lt hj, Array.getElem?_toList]
    congr 1
    omega
theorem LAt.block {w : World} {B : Nat} {x : X} {cs : Array Value} (hx : (fl x).length = n) (hc : cs = (fl x).toArray) (h : w.heap[B]? = some (.cells cs e (0, 0))) : LAt n fl w (.slice (some ⟨B, 0, none⟩) 1 1) [x] := by
  refine ⟨fun y hy => by rw [List.mem_singleton.1 hy]; exact hx, .inr ⟨B, 0, 1, rfl, lt_of_block h, Nat.le_refl _, by decide, fun j y hy => ?_⟩⟩
  rw [block_cell h, hc]
  rw [LF_one] at hy
  simpa using hy
theorem gen_add_off (b o i : Nat) : (⟨b, o, none⟩ : Addr).add i = ⟨b, o + i, none⟩ := by unfold Addr.add; split <;> simp_all
theorem gen_append_none {P : Program} {w : World} (base : Nat) (t ty e : TypeId) (i : TypeInfo) (size c : Nat) (ht : P.underlying t = some (.slice e)) (hi : P.info? e = some i)
    (v : Value) (n : Nat) (xs : List Value) (hown : w.ownsRow base e size v n xs) :
    (Builtin.append_ #[t, t] ty #[v, .slice none 0 c]).run P w = .ok v w := by
  rcases hown.2 with ⟨rfl, rfl⟩ | ⟨g, cap, cur, rfl, _, _, hnc, _⟩
  · simp [Builtin.append_, run_underlying ht, sizeOf, typeInfo, hi, Builtin.lenOf, Builtin.firstCells]
  · simp [Builtin.append_, run_underlying ht, sizeOf, typeInfo, hi, Builtin.lenOf, Builtin.firstCells, hnc, storeCells]
theorem run_append_gen (E : Elt t e n by_ fl) (w : World) (base : Nat) (v : Value) (m : Nat) (xs : List Value) (u : Value) (l : List X) (hown : w.ownsRow base e n v m xs) (hu : LAt n fl w u l) (hb : (m + l.length) * by_ ≤ 140737488355328) (hm63 : m + l.length ≤ maxLen) (hbase : base ≤ w.heap.size) :
    ∃ v' w', (Builtin.append_ #[t, t] t #[v, u]).run Tryd.prog w = .ok v' w' ∧ w'.ownsRow base e n v' (m + l.length) (xs ++ LF fl l) ∧ w.grownBy w' v.ownBlock := by
  obtain ⟨i0, z, hi, hz0, hz1, hz2, hzs⟩ := E.inf
  obtain ⟨hl, hu⟩ := hu
  rcases hu with ⟨p, cap, rfl, rfl⟩ | ⟨b, off, cap, rfl, hb2, hcap, hmax, hcell⟩
  · cases p with
    | none => exact ⟨v, w, gen_append_none base t t e i0 n cap E.tu hi v m xs hown, by simpa [LF] using hown, World.grownBy.refl _ _⟩
    | some ad =>
      obtain ⟨v', w', h1, h2, h3, _⟩ := run_append_own_at (P := Tryd.prog) w base t t e i0 z n by_ E.tu hi hz0 hz1 hz2 hzs E.pos v m xs hown ad 0 cap [] (by simp) (fun j u h => by simp at h) (fun u h => by simp at h) (by simpa using hm63) (by simpa using hb) hbase
      exact ⟨v', w', h1, by simpa [LF] using h2, h3⟩
  · obtain ⟨v', w', h1, h2, h3, _⟩ := run_append_own_at (P := Tryd.prog) w base t t e i0 z n by_ E.tu hi hz0 hz1 hz2 hzs E.pos v m xs hown ⟨b, off, none⟩ l.length cap (LF fl l) (LF_len l hl) (fun j y hj => by
      rw [gen_add_off]; exact hcell j y hj) (fun y hy => LF_mem E hy) hm63 hb hbase
    exact ⟨v', w', h1, h2, h3⟩
theorem run_append_first_gen (E : Elt t e n by_ fl) (w : World) (base B : Nat) (u : Value) (l : List X) (hB : w.heap[B]? = some (.cells #[] e (0, 0))) (hbB : base ≤ B) (hu : LAt n fl w u l) (hb : l.length * by_ ≤ 140737488355328) (hbase : base ≤ w.heap.size) :
    ∃ v' w', (Builtin.append_ #[t, t] t #[.slice (some ⟨B, 0, none⟩) 0 0, u]).run Tryd.prog w = .ok v' w' ∧ w'.ownsRow base e n v' l.length (LF fl l) ∧ Below w.heap.size w w' := by
  have hown : w.ownsRow base e n (.slice (some ⟨B, 0, none⟩) 0 0) 0 [] := ⟨by simp, .inr ⟨B, 0, #[], rfl, hbB, hB, Nat.le_refl _, by decide, by simp, by simp⟩⟩
  have hlm : l.length ≤ maxLen := by
    rcases hu.2 with ⟨p, cap, _, rfl⟩ | ⟨b, off, cap, _, _, h1, h2, _⟩
    · simp
    · omega
  obtain ⟨v', w', hr, ho, hg⟩ := run_append_gen E w base _ 0 [] u l hown hu (by simpa using hb) (by simpa using hlm) hbase
  rw [Nat.zero_add, List.nil_append] at ho
  refine ⟨v', w', hr, ho, ?_⟩
  obtain ⟨i0, z, hi, hz0, hz1, hz2, hzs⟩ := E.inf
  obtain ⟨hl, hu⟩ := hu
  rcases hu with ⟨p, cap, rfl, rfl⟩ | ⟨b, off, cap, rfl, hb2, hcap, hmax, hcell⟩
  · have hr2 : (Builtin.append_ #[t, t] t #[.slice (some ⟨B, 0, none⟩) 0 0, .slice p 0 cap]).run Tryd.prog w = .ok (.slice (some ⟨B, 0, none⟩) 0 0) w := by
      cases p <;> simp [Builtin.append_, run_underlying E.tu, sizeOf, typeInfo, hi, Builtin.lenOf, Builtin.firstCells, loadCells, loadCellsFrom, storeCells]
    rw [hr] at hr2
    cases hr2
    exact Below.refl _ _
  · by_cases h0 : l.length = 0
    · rw [h0] at hr
      have hr2 : (Builtin.append_ #[t, t] t #[.slice (some ⟨B, 0, none⟩) 0 0, .slice (some ⟨b, off, none⟩) 0 cap]).run Tryd.prog w = .ok (.slice (some ⟨B, 0, none⟩) 0 0) w := by
        simp [Builtin.append_, run_underlying E.tu, sizeOf, typeInfo, hi, Builtin.lenOf, Builtin.firstCells, loadCells, loadCellsFrom, storeCells]
      rw [hr] at hr2
      cases hr2
      exact Below.refl _ _
    · have hr2 := run_append_grow (P := Tryd.prog) w t t e i0 _ E.tu hi hz0 ⟨B, 0, none⟩ 0 0 [] (by simp) (fun j v h => by simp at h) ⟨b, off, none⟩ l.length cap (LF fl l) (by rw [LF_len l hl, hz1]) (fun j y hj => by rw [gen_add_off]; exact hcell j y hj) (by omega) (by unfold maxLen at hmax; omega) (growslice_fits (by omega) (by rw [hz2]; simpa using hb))
      rw [hr] at hr2
      cases hr2
      exact (Below.refl _ _).drew.alloc (Nat.le_refl _) _
theorem gen_addr_zero (a : Addr) : a.add 0 = a := by unfold Addr.add; simp
theorem gen_take (E : Elt t e n by_ fl) {w : World} {v : Value} {L : List X} (h : LAt n fl w v L) (k : Nat) (hk : k ≤ L.length) :
    ∃ vt, (∀ w1, (Instr.slice t v none (some (.int .i64 k)) none).run Tryd.prog w1 = .ok vt w1) ∧ LAt n fl w vt (L.take k) := by
  have hz : ∀ w1, (sizeOf e).run Tryd.prog w1 = .ok n w1 := fun w1 => by
    obtain ⟨i0, z, hi, hz0, hz1, _⟩ := E.inf
    simp [sizeOf, typeInfo, hi, hz1]
  have run : ∀ p len cap, k ≤ cap → ∀ w1, (Instr.slice t (.slice p len cap) none (some (.int .i64 k)) none).run Tryd.prog w1 = .ok (.slice p k cap) w1 := fun p len cap hc w1 => by
    rw [run_slice_h w1 t _ _ _ (by rw [E.el]; exact E.tu) .i64 k (by omega) (by omega), E.el, hz]
    simp only [Result.andThen_ok, sliced, Int.toNat_natCast, Nat.zero_mul, Nat.sub_zero]
    have : (if cap = 0 then p else p.map fun x => x.add 0) = p := by
      split
      · rfl
      · cases p with
        | none => rfl
        | some a => simp [gen_addr_zero]
    rw [this]
  obtain ⟨hl, h⟩ := h
  have hl2 : ∀ x ∈ L.take k, (fl x).length = n := fun x hx => hl x (List.mem_of_mem_take hx)
  rcases h with ⟨p, cap, rfl, rfl⟩ | ⟨b, off, cap, rfl, hb, hcap, hmax, hcell⟩
  · have hk0 : k = 0 := by simpa using hk
    subst hk0
    exact ⟨_, run p 0 cap (by omega), hl2, .inl ⟨p, cap, rfl, rfl⟩⟩
  · refine ⟨_, run _ _ cap (by omega), hl2, .inr ⟨b, off, cap, by rw [List.length_take, Nat.min_eq_left hk], hb, by rw [List.length_take]; omega, hmax, fun j x hx => hcell j x ?_⟩⟩
    have e2 : LF fl L = LF fl (L.take k) ++ LF fl (L.drop k) := by rw [← LF_app, List.take_append_drop]
    rw [e2, List.getElem?_append_left (List.getElem?_eq_some_iff.1 hx).1]
    exact hx
theorem gen_drop (E : Elt t e n by_ fl) {w : World} {v : Value} {L : List X} (h : LAt n fl w v L) (k : Nat) (hk : k ≤ L.length) :
    ∃ vt, (∀ w1, (Instr.slice t v (some (.int .i64 k)) none none).run Tryd.prog w1 = .ok vt w1) ∧ LAt n fl w vt (L.drop k) := by
  have hz : ∀ w1, (sizeOf e).run Tryd.prog w1 = .ok n w1 := fun w1 => by
    obtain ⟨i0, z, hi, hz0, hz1, _⟩ := E.inf
    simp [sizeOf, typeInfo, hi, hz1]
  obtain ⟨hl, h⟩ := h
  have hl2 : ∀ x ∈ L.drop k, (fl x).length = n := fun x hx => hl x (List.mem_of_mem_drop hx)
  rcases h with ⟨p, cap, rfl, rfl⟩ | ⟨b, off, cap, rfl, hb, hcap, hmax, hcell⟩
  · have hk0 : k = 0 := by simpa using hk
    subst hk0
    refine ⟨_, fun w1 => ?_, hl2, .inl ⟨if cap = 0 then p else p.map fun x => x.add 0, cap, rfl, rfl⟩⟩
    rw [run_slice_l w1 t _ _ _ (by rw [E.el]; exact E.tu) .i64 _ (by omega) (by omega), E.el, hz]
    simp only [Result.andThen_ok, sliced, Int.toNat_natCast, Nat.zero_mul, Nat.sub_zero]
  · have run : ∀ w1, (Instr.slice t (.slice (some ⟨b, off, none⟩) L.length cap) (some (.int .i64 k)) none none).run Tryd.prog w1 = .ok (.slice (if cap = k then some ⟨b, off, none⟩ else some ⟨b, off + k * n, none⟩) (L.length - k) (cap - k)) w1 := fun w1 => by
      rw [run_slice_l w1 t _ _ _ (by rw [E.el]; exact E.tu) .i64 k (by omega) (by omega), E.el, hz]
      simp only [Result.andThen_ok, sliced, Int.toNat_natCast, Option.map_some, gen_add_off]
    refine ⟨_, run, hl2, ?_⟩
    have hdl : (L.drop k).length = L.length - k := List.length_drop
    by_cases h0 : L.length - k = 0
    · exact .inl ⟨_, _, by rw [h0], List.eq_nil_of_length_eq_zero (by omega)⟩
    · rw [if_neg (by omega)]
      refine .inr ⟨b, off + k * n, cap - k, by rw [hdl], hb, by omega, by unfold maxLen at hmax ⊢; omega, fun j x hx => ?_⟩
      have e2 : LF fl L = LF fl (L.take k) ++ LF fl (L.drop k) := by rw [← LF_app, List.take_append_drop]
      have hlt : (LF fl (L.take k)).length = k * n := by rw [LF_len _ (fun x hx => hl x (List.mem_of_mem_take hx)), List.length_take, Nat.min_eq_left hk]
      have := hcell (k * n + j) x (by rw [e2, List.getElem?_append_right (by omega), hlt, Nat.add_sub_cancel_left]; exact hx)
      rw [Nat.add_assoc]; exact this
/-- A row of the call's own; what the call's memory is. -/
theorem gen_own_below {w w' : World} {base : Nat} {e : TypeId} {n s : Nat} {v : Value} {xs : List Value} (h : w.ownsRow base e s v n xs) (hB : Below w.heap.size w w') : w'.ownsRow base e s v n xs := by
  refine ⟨h.1, ?_⟩
  rcases h.2 with h | ⟨g, cap, cur, hv, hg, hh, rest⟩
  · exact .inl h
  · exact .inr ⟨g, cap, cur, hv, hg, (hB.block g (lt_of_block hh)).trans hh, rest⟩
structure LoG (e : TypeId) (n : Nat) (fl : X → List Value) (w : World) (L : List X) (vo : Value) (wr : World) : Prop where
  ow : wr.ownsRow w.heap.size e n vo L.length (LF fl L)
  bl : Below w.heap.size w wr
theorem LoG.below {w w1 w2 : World} {L : List X} {vo : Value} (h : LoG e n fl w L vo w1) (hB : Below w1.heap.size w1 w2) : LoG e n fl w L vo w2 := ⟨gen_own_below h.ow hB, h.bl.trans (hB.mono h.bl.size)⟩
theorem LoG.put {w w1 w2 : World} {L M : List X} {vo v' : Value} (h : LoG e n fl w L vo w1) (ho : w2.ownsRow w.heap.size e n v' M.length (LF fl M)) (hg : w1.grownBy w2 vo.ownBlock) : LoG e n fl w M v' w2 :=
  ⟨ho, h.bl.grown hg h.bl.size (fun j hj => (h.ow.lt j hj).1)⟩
structure OwnG (e : TypeId) (n : Nat) (fl : X → List Value) (base : Nat) (v4 : Value) (L : List X) (v : Value) (w : World) : Prop where
  e_ : v = v4
  o : w.ownsRow base e n v4 L.length (LF fl L)
theorem OwnG.st1 (base : Nat) (v4 : Value) (L : List X) : K3.St1 (OwnG e n fl base v4 L) := fun v w1 w2 h hB => ⟨h.e_, gen_own_below h.o hB⟩
structure RowG (e : TypeId) (n : Nat) (fl : X → List Value) (base : Nat) (L : List X) (v : Value) (w : World) : Prop where
  own : w.ownsRow base e n v L.length (LF fl L)
theorem RowG.st1 (base : Nat) (L : List X) : K3.St1 (RowG e n fl base L) := fun v w1 w2 h hB => ⟨gen_own_below h.own hB⟩
theorem wpList_append_gen (E : Elt t e n by_ fl) {w : World} {ops : Array Oper} {rest : List Oper} {o : Oper} {a : Act} {Q : Exit → Act → World → Prop} (hgd : o.guard = none) (s x : Operand)
    (ho : o.op = .call { callee := .builtin .append, args := #[s, x], argTypes := #[t, t] }) (hty : o.type = t) (base : Nat) (v : Value) (xs : List X) (hs : a.eval s = v) (hown : w.ownsRow base e n v xs.length (LF fl xs))
    (u : Value) (l : List X) (hu : LAt n fl w u l) (hx : a.eval x = u) (hb : (xs.length + l.length) * by_ ≤ 140737488355328) (hm : xs.length + l.length ≤ maxLen) (hbase : base ≤ w.heap.size)
    (h : ∀ v' w', w'.ownsRow base e n v' (xs ++ l).length (LF fl (xs ++ l)) → w.grownBy w' v.ownBlock → wpList Tryd.prog ops Q rest (a.put o.dst v') w') : wpList Tryd.prog ops Q (o :: rest) a w := by
  obtain ⟨v', w', h1, h2, h3⟩ := run_append_gen E w base v _ _ u l hown hu hb hm hbase
  refine wpList_plain hgd fun K hK => ?_
  unfold Oper.wp execOp
  simp only [ho, hty, resolve, invoke, builtin, Sem.run_bind, Sem.run_pure, Result.andThen_ok, List.map_toArray, List.map_cons, List.map_nil, hs, hx]
  rw [h1]
  exact hK _ _ (h v' w' (by rw [List.length_append, LF_app]; exact h2) h3)
end
theorem info_elt {P : Program} {e : TypeId} {n b : Nat} (h : ((P.info? e).bind fun i => i.zero.map fun z => (i.size, i.bytes, z.cells.size)) = some (n, b, n)) : ∃ i z, P.info? e = some i ∧ i.zero = some z ∧ i.size = n ∧ i.bytes = b ∧ z.cells.size = n := by
  cases hi : P.info? e with
  | none => rw [hi] at h; cases h
  | some i =>
    rw [hi] at h
    cases hz : i.zero with
    | none => simp [hz] at h
    | some z =>
      simp [hz] at h
      exact ⟨i, z, rfl, hz, h.1, h.2.1, h.2.2⟩
end Go.Proofs.YtkmachhfibcdlaaDoor
