/- Rows of tokens; how a row grows; The theory of a device in memory: its files, the blocks that they lie in, and what keeps them; Walks: names, whether a file can be asked for, where it lies; small calls; Walks: a device that is new; the power's coming back; the fuse; reading. -/
import Derived.Test.YtbdlmdmbaajcmaaKw
import Derived.Test.YtbdlmdmbaajcmaaChecked
import Derived.Test.YtbdlmdmbaajcmaaKt
import Derived.WalkKit
import Derived.ProofKit
import Derived.Below
import Derived.OneCell
import Derived.Lib.Hide
import Derived.SizedLaws
import Derived.BigQuiet
import Derived.WalkSpells
import Derived.WalkLawsBesides
import Derived.Deep.DeepFit
import Derived.Deep.QuietTactic
import Derived.Lib.Strings
import Derived.Maps.RangeWalk
import Derived.Maps.OwnSet
import Derived.Maps.OwnOps
import Derived.Maps.Ext
import Derived.StringKeys
import Derived.Laws.CopyOwn
import Derived.Lib.UnsafeStr
import Derived.Great.BuildSlice
import Derived.Deep.Onto
import Derived.Maps.AppendAt
import Derived.Carry
import Derived.Laws.Cover3
namespace Go.Proofs.Ytbdlmdmbaajcmaa
set_option linter.unusedVariables false
set_option linter.unusedSimpArgs false
open Go.ChangeShapes Go.WideShapes Go.ChangeAt Go.RowKit
/-- Elements of a slice's type t: of type e, n cells, by bytes. -/
structure Elt (t e : TypeId) (n by_ : Nat) {X : Type} (fl : X → List Value) : Prop where
  tu : Try.prog.underlying t = some (.slice e)
  el : Try.prog.elem t = e
  inf : ∃ i z, Try.prog.info? e = some i ∧ i.zero = some z ∧ i.size = n ∧ i.bytes = by_ ∧ z.cells.size = n
  pos : 0 < n
  one : ∀ x, ∀ u ∈ fl x, u.oneCell' = true
def LF {X : Type} (fl : X → List Value) (l : List X) : List Value := l.flatMap fl
section
variable {t e : TypeId} {n by_ : Nat} {X : Type} {fl : X → List Value}
theorem LF_app (a b : List X) : LF fl (a ++ b) = LF fl a ++ LF fl b := by simp [LF]
theorem LF_one (x : X) : LF fl [x] = fl x := by simp [LF]
theorem LF_len : ∀ (l : List X), (∀ x ∈ l, (fl x).length = n) → (LF fl l).length = l.length * n
  | [], _ => by simp [LF]
  | x :: l, h => by
    have : LF fl (x :: l) = fl x ++ LF fl l := rfl
    rw [this, List.length_append, h x List.mem_cons_self, LF_len l (fun y hy => h y (List.mem_cons_of_mem _ hy)), List.length_cons, Nat.add_mul]
    omega
theorem LF_at : ∀ (l : List X), (∀ x ∈ l, (fl x).length = n) → ∀ (i : Nat) (x : X), l[i]? = some x → ∀ j, j < n → (LF fl l)[i * n + j]? = (fl x)[j]?
  | [], _, i, x, hx, j, hj => by simp at hx
  | y :: l, h, 0, x, hx, j, hj => by
    obtain rfl : y = x := by simpa using hx
    have : LF fl (y :: l) = fl y ++ LF fl l := rfl
    rw [this, Nat.zero_mul, Nat.zero_add, List.getElem?_append_left (by rw [h y List.mem_cons_self]; exact hj)]
  | y :: l, h, i + 1, x, hx, j, hj => by
    have : LF fl (y :: l) = fl y ++ LF fl l := rfl
    rw [this, List.getElem?_append_right (by rw [h y List.mem_cons_self, Nat.add_mul]; omega), h y List.mem_cons_self, show (i + 1) * n + j - n = i * n + j by rw [Nat.add_mul]; omega]
    exact LF_at l (fun y hy => h y (List.mem_cons_of_mem _ hy)) i x (by simpa using hx) j hj
theorem LF_mem (E : Elt t e n by_ fl) {l : List X} {u : Value} (h : u ∈ LF fl l) : u.oneCell' = true := by
  obtain ⟨x, _, hx⟩ := List.mem_flatMap.1 h
  exact E.one x u hx
/-- Elements in memory from a place on. -/
def LAt (n : Nat) (fl : X → List Value) (w : World) (u : Value) (l : List X) : Prop := (∀ x ∈ l, (fl x).length = n) ∧
  ((∃ p cap, u = .slice p 0 cap ∧ l = []) ∨ ∃ b off cap, u = .slice (some ⟨b, off, none⟩) l.length cap ∧ b < w.heap.size ∧ l.length ≤ cap ∧ cap ≤ maxLen ∧ ∀ j x, (LF fl l)[j]? = some x → w.cell? ⟨b, off + j, none⟩ = some x)
theorem LAt.below {w w' : World} {u : Value} {l : List X} (h : LAt n fl w u l) (hB : Below w.heap.size w w') : LAt n fl w' u l := by
  refine ⟨h.1, ?_⟩
  rcases h.2 with h | ⟨b, off, cap, h1, h2, h3, h4, h5⟩
  · exact .inl h
  · exact .inr ⟨b, off, cap, h1, Nat.lt_of_lt_of_le h2 hB.size, h3, h4, fun j x hx => (hB.cell (p := ⟨b, off + j, none⟩) h2).trans (h5 j x hx)⟩
theorem LAt.own {w : World} {base : Nat} {v : Value} {l : List X} (hl : ∀ x ∈ l, (fl x).length = n) (h : w.ownsRow base e n v l.length (LF fl l)) : LAt n fl w v l := by
  refine ⟨hl, ?_⟩
  rcases h.2 with ⟨hv, hn⟩ | ⟨g, cap, cur, hv, _, hg, hcap, hmax, hsz, htake⟩
  · exact .inl ⟨_, _, hv, List.eq_nil_of_length_eq_zero hn⟩
  · refine .inr ⟨g, 0, cap, hv, lt_of_block hg, hcap, hmax, fun j x hx => ?_⟩
    have hj := (List.getElem?_eq_some_iff.1 hx).1
    rw [LF_len l hl] at hj
    rw [block_cell hg, ← hx, ← htake, List.getElem?_take_of_lt hj, Array.getElem?_toList]
    congr 1
    omega
theorem LAt.block {w : World} {B : Nat} {x : X} {cs : Array Value} (hx : (fl x).length = n) (hc : cs = (fl x).toArray) (h : w.heap[B]? = some (.cells cs e (0, 0))) : LAt n fl w (.slice (some ⟨B, 0, none⟩) 1 1) [x] := by
  refine ⟨fun y hy => by rw [List.mem_singleton.1 hy]; exact hx, .inr ⟨B, 0, 1, rfl, lt_of_block h, Nat.le_refl _, by decide, fun j y hy => ?_⟩⟩
  rw [block_cell h, hc]
  rw [LF_one] at hy
  simpa using hy
theorem gen_add_off (b o i : Nat) : (⟨b, o, none⟩ : Addr).add i = ⟨b, o + i, none⟩ := by unfold Addr.add; split <;> simp_all
theorem gen_append_none {P : Program} {w : World} (base : Nat) (t ty e : TypeId) (i : TypeInfo) (size c : Nat) (ht : P.underlying t = some (.slice e)) (hi : P.info? e = some i)
    (v : Value) (n : Nat) (xs : List Value) (hown : w.ownsRow base e size v n xs) :
    (Builtin.append_ #[t, t] ty #[v, .slice none 0 c]).run P w = .ok v w := by
  rcases hown.2 with ⟨rfl, rfl⟩ | ⟨g, cap, cur, rfl, _, _, hnc, _⟩
  · simp [Builtin.append_, run_underlying ht, sizeOf, typeInfo, hi, Builtin.lenOf, Builtin.firstCells]
  · simp [Builtin.append_, run_underlying ht, sizeOf, typeInfo, hi, Builtin.lenOf, Builtin.firstCells, hnc, storeCells]
theorem run_append_gen (E : Elt t e n by_ fl) (w : World) (base : Nat) (v : Value) (m : Nat) (xs : List Value) (u : Value) (l : List X) (hown : w.ownsRow base e n v m xs) (hu : LAt n fl w u l) (hb : (m + l.length) * by_ ≤ 140737488355328) (hm63 : m + l.length ≤ maxLen) (hbase : base ≤ w.heap.size) :
    ∃ v' w', (Builtin.append_ #[t, t] t #[v, u]).run Try.prog w = .ok v' w' ∧ w'.ownsRow base e n v' (m + l.length) (xs ++ LF fl l) ∧ w.grownBy w' v.ownBlock := by
  obtain ⟨i0, z, hi, hz0, hz1, hz2, hzs⟩ := E.inf
  obtain ⟨hl, hu⟩ := hu
  rcases hu with ⟨p, cap, rfl, rfl⟩ | ⟨b, off, cap, rfl, hb2, hcap, hmax, hcell⟩
  · cases p with
    | none => exact ⟨v, w, gen_append_none base t t e i0 n cap E.tu hi v m xs hown, by simpa [LF] using hown, World.grownBy.refl _ _⟩
    | some ad =>
      obtain ⟨v', w', h1, h2, h3, _⟩ := run_append_own_at (P := Try.prog) w base t t e i0 z n by_ E.tu hi hz0 hz1 hz2 hzs E.pos v m xs hown ad 0 cap [] (by simp) (fun j u h => by simp at h) (fun u h => by simp at h) (by simpa using hm63) (by simpa using hb) hbase
      exact ⟨v', w', h1, by simpa [LF] using h2, h3⟩
  · obtain ⟨v', w', h1, h2, h3, _⟩ := run_append_own_at (P := Try.prog) w base t t e i0 z n by_ E.tu hi hz0 hz1 hz2 hzs E.pos v m xs hown ⟨b, off, none⟩ l.length cap (LF fl l) (LF_len l hl) (fun j y hj => by
      rw [gen_add_off]; exact hcell j y hj) (fun y hy => LF_mem E hy) hm63 hb hbase
    exact ⟨v', w', h1, h2, h3⟩
theorem run_append_first_gen (E : Elt t e n by_ fl) (w : World) (base B : Nat) (u : Value) (l : List X) (hB : w.heap[B]? = some (.cells #[] e (0, 0))) (hbB : base ≤ B) (hu : LAt n fl w u l) (hb : l.length * by_ ≤ 140737488355328) (hbase : base ≤ w.heap.size) :
    ∃ v' w', (Builtin.append_ #[t, t] t #[.slice (some ⟨B, 0, none⟩) 0 0, u]).run Try.prog w = .ok v' w' ∧ w'.ownsRow base e n v' l.length (LF fl l) ∧ Below w.heap.size w w' := by
  have hown : w.ownsRow base e n (.slice (some ⟨B, 0, none⟩) 0 0) 0 [] := ⟨by simp, .inr ⟨B, 0, #[], rfl, hbB, hB, Nat.le_refl _, by decide, by simp, by simp⟩⟩
  have hlm : l.length ≤ maxLen := by
    rcases hu.2 with ⟨p, cap, _, rfl⟩ | ⟨b, off, cap, _, _, h1, h2, _⟩
    · simp
    · omega
  obtain ⟨v', w', hr, ho, hg⟩ := run_append_gen E w base _ 0 [] u l hown hu (by simpa using hb) (by simpa using hlm) hbase
  rw [Nat.zero_add, List.nil_append] at ho
  refine ⟨v', w', hr, ho, ?_⟩
  obtain ⟨i0, z, hi, hz0, hz1, hz2, hzs⟩ := E.inf
  obtain ⟨hl, hu⟩ := hu
  rcases hu with ⟨p, cap, rfl, rfl⟩ | ⟨b, off, cap, rfl, hb2, hcap, hmax, hcell⟩
  · have hr2 : (Builtin.append_ #[t, t] t #[.slice (some ⟨B, 0, none⟩) 0 0, .slice p 0 cap]).run Try.prog w = .ok (.slice (some ⟨B, 0, none⟩) 0 0) w := by
      cases p <;> simp [Builtin.append_, run_underlying E.tu, sizeOf, typeInfo, hi, Builtin.lenOf, Builtin.firstCells, loadCells, loadCellsFrom, storeCells]
    rw [hr] at hr2
    cases hr2
    exact Below.refl _ _
  · by_cases h0 : l.length = 0
    · rw [h0] at hr
      have hr2 : (Builtin.append_ #[t, t] t #[.slice (some ⟨B, 0, none⟩) 0 0, .slice (some ⟨b, off, none⟩) 0 cap]).run Try.prog w = .ok (.slice (some ⟨B, 0, none⟩) 0 0) w := by
        simp [Builtin.append_, run_underlying E.tu, sizeOf, typeInfo, hi, Builtin.lenOf, Builtin.firstCells, loadCells, loadCellsFrom, storeCells]
      rw [hr] at hr2
      cases hr2
      exact Below.refl _ _
    · have hr2 := run_append_grow (P := Try.prog) w t t e i0 _ E.tu hi hz0 ⟨B, 0, none⟩ 0 0 [] (by simp) (fun j v h => by simp at h) ⟨b, off, none⟩ l.length cap (LF fl l) (by rw [LF_len l hl, hz1]) (fun j y hj => by rw [gen_add_off]; exact hcell j y hj) (by omega) (by unfold maxLen at hmax; omega) (growslice_fits (by omega) (by rw [hz2]; simpa using hb))
      rw [hr] at hr2
      cases hr2
      exact (Below.refl _ _).drew.alloc (Nat.le_refl _) _
theorem gen_addr_zero (a : Addr) : a.add 0 = a := by unfold Addr.add; simp
theorem gen_take (E : Elt t e n by_ fl) {w : World} {v : Value} {L : List X} (h : LAt n fl w v L) (k : Nat) (hk : k ≤ L.length) :
    ∃ vt, (∀ w1, (Instr.slice t v none (some (.int .i64 k)) none).run Try.prog w1 = .ok vt w1) ∧ LAt n fl w vt (L.take k) := by
  have hz : ∀ w1, (sizeOf e).run Try.prog w1 = .ok n w1 := fun w1 => by
    obtain ⟨i0, z, hi, hz0, hz1, _⟩ := E.inf
    simp [sizeOf, typeInfo, hi, hz1]
  have run : ∀ p len cap, k ≤ cap → ∀ w1, (Instr.slice t (.slice p len cap) none (some (.int .i64 k)) none).run Try.prog w1 = .ok (.slice p k cap) w1 := fun p len cap hc w1 => by
    rw [run_slice_h w1 t _ _ _ (by rw [E.el]; exact E.tu) .i64 k (by omega) (by omega), E.el, hz]
    simp only [Result.andThen_ok, sliced, Int.toNat_natCast, Nat.zero_mul, Nat.sub_zero]
    have : (if cap = 0 then p else p.map fun x => x.add 0) = p := by
      split
      · rfl
      · cases p with
        | none => rfl
        | some a => simp [gen_addr_zero]
    rw [this]
  obtain ⟨hl, h⟩ := h
  have hl2 : ∀ x ∈ L.take k, (fl x).length = n := fun x hx => hl x (List.mem_of_mem_take hx)
  rcases h with ⟨p, cap, rfl, rfl⟩ | ⟨b, off, cap, rfl, hb, hcap, hmax, hcell⟩
  · have hk0 : k = 0 := by simpa using hk
    subst hk0
    exact ⟨_, run p 0 cap (by omega), hl2, .inl ⟨p, cap, rfl, rfl⟩⟩
  · refine ⟨_, run _ _ cap (by omega), hl2, .inr ⟨b, off, cap, by rw [List.length_take, Nat.min_eq_left hk], hb, by rw [List.length_take]; omega, hmax, fun j x hx => hcell j x ?_⟩⟩
    have e2 : LF fl L = LF fl (L.take k) ++ LF fl (L.drop k) := by rw [← LF_app, List.take_append_drop]
    rw [e2, List.getElem?_append_left (List.getElem?_eq_some_iff.1 hx).1]
    exact hx
theorem gen_drop (E : Elt t e n by_ fl) {w : World} {v : Value} {L : List X} (h : LAt n fl w v L) (k : Nat) (hk : k ≤ L.length) :
    ∃ vt, (∀ w1, (Instr.slice t v (some (.int .i64 k)) none none).run Try.prog w1 = .ok vt w1) ∧ LAt n fl w vt (L.drop k) := by
  have hz : ∀ w1, (sizeOf e).run Try.prog w1 = .ok n w1 := fun w1 => by
    obtain ⟨i0, z, hi, hz0, hz1, _⟩ := E.inf
    simp [sizeOf, typeInfo, hi, hz1]
  obtain ⟨hl, h⟩ := h
  have hl2 : ∀ x ∈ L.drop k, (fl x).length = n := fun x hx => hl x (List.mem_of_mem_drop hx)
  rcases h with ⟨p, cap, rfl, rfl⟩ | ⟨b, off, cap, rfl, hb, hcap, hmax, hcell⟩
  · have hk0 : k = 0 := by simpa using hk
    subst hk0
    refine ⟨_, fun w1 => ?_, hl2, .inl ⟨if cap = 0 then p else p.map fun x => x.add 0, cap, rfl, rfl⟩⟩
    rw [run_slice_l w1 t _ _ _ (by rw [E.el]; exact E.tu) .i64 _ (by omega) (by omega), E.el, hz]
    simp only [Result.andThen_ok, sliced, Int.toNat_natCast, Nat.zero_mul, Nat.sub_zero]
  · have run : ∀ w1, (Instr.slice t (.slice (some ⟨b, off, none⟩) L.length cap) (some (.int .i64 k)) none none).run Try.prog w1 = .ok (.slice (if cap = k then some ⟨b, off, none⟩ else some ⟨b, off + k * n, none⟩) (L.length - k) (cap - k)) w1 := fun w1 => by
      rw [run_slice_l w1 t _ _ _ (by rw [E.el]; exact E.tu) .i64 k (by omega) (by omega), E.el, hz]
      simp only [Result.andThen_ok, sliced, Int.toNat_natCast, Option.map_some, gen_add_off]
    refine ⟨_, run, hl2, ?_⟩
    have hdl : (L.drop k).length = L.length - k := List.length_drop
    by_cases h0 : L.length - k = 0
    · exact .inl ⟨_, _, by rw [h0], List.eq_nil_of_length_eq_zero (by omega)⟩
    · rw [if_neg (by omega)]
      refine .inr ⟨b, off + k * n, cap - k, by rw [hdl], hb, by omega, by unfold maxLen at hmax ⊢; omega, fun j x hx => ?_⟩
      have e2 : LF fl L = LF fl (L.take k) ++ LF fl (L.drop k) := by rw [← LF_app, List.take_append_drop]
      have hlt : (LF fl (L.take k)).length = k * n := by rw [LF_len _ (fun x hx => hl x (List.mem_of_mem_take hx)), List.length_take, Nat.min_eq_left hk]
      have := hcell (k * n + j) x (by rw [e2, List.getElem?_append_right (by omega), hlt, Nat.add_sub_cancel_left]; exact hx)
      rw [Nat.add_assoc]; exact this
/-- A row of the call's own; what the call's memory is. -/
theorem gen_own_below {w w' : World} {base : Nat} {e : TypeId} {n s : Nat} {v : Value} {xs : List Value} (h : w.ownsRow base e s v n xs) (hB : Below w.heap.size w w') : w'.ownsRow base e s v n xs := by
  refine ⟨h.1, ?_⟩
  rcases h.2 with h | ⟨g, cap, cur, hv, hg, hh, rest⟩
  · exact .inl h
  · exact .inr ⟨g, cap, cur, hv, hg, (hB.block g (lt_of_block hh)).trans hh, rest⟩
structure LoG (e : TypeId) (n : Nat) (fl : X → List Value) (w : World) (L : List X) (vo : Value) (wr : World) : Prop where
  ow : wr.ownsRow w.heap.size e n vo L.length (LF fl L)
  bl : Below w.heap.size w wr
theorem LoG.below {w w1 w2 : World} {L : List X} {vo : Value} (h : LoG e n fl w L vo w1) (hB : Below w1.heap.size w1 w2) : LoG e n fl w L vo w2 := ⟨gen_own_below h.ow hB, h.bl.trans (hB.mono h.bl.size)⟩
theorem LoG.put {w w1 w2 : World} {L M : List X} {vo v' : Value} (h : LoG e n fl w L vo w1) (ho : w2.ownsRow w.heap.size e n v' M.length (LF fl M)) (hg : w1.grownBy w2 vo.ownBlock) : LoG e n fl w M v' w2 :=
  ⟨ho, h.bl.grown hg h.bl.size (fun j hj => (h.ow.lt j hj).1)⟩
structure OwnG (e : TypeId) (n : Nat) (fl : X → List Value) (base : Nat) (v4 : Value) (L : List X) (v : Value) (w : World) : Prop where
  e_ : v = v4
  o : w.ownsRow base e n v4 L.length (LF fl L)
theorem OwnG.st1 (base : Nat) (v4 : Value) (L : List X) : K3.St1 (OwnG e n fl base v4 L) := fun v w1 w2 h hB => ⟨h.e_, gen_own_below h.o hB⟩
structure RowG (e : TypeId) (n : Nat) (fl : X → List Value) (base : Nat) (L : List X) (v : Value) (w : World) : Prop where
  own : w.ownsRow base e n v L.length (LF fl L)
theorem RowG.st1 (base : Nat) (L : List X) : K3.St1 (RowG e n fl base L) := fun v w1 w2 h hB => ⟨gen_own_below h.own hB⟩
theorem wpList_append_gen (E : Elt t e n by_ fl) {w : World} {ops : Array Oper} {rest : List Oper} {o : Oper} {a : Act} {Q : Exit → Act → World → Prop} (hgd : o.guard = none) (s x : Operand)
    (ho : o.op = .call { callee := .builtin .append, args := #[s, x], argTypes := #[t, t] }) (hty : o.type = t) (base : Nat) (v : Value) (xs : List X) (hs : a.eval s = v) (hown : w.ownsRow base e n v xs.length (LF fl xs))
    (u : Value) (l : List X) (hu : LAt n fl w u l) (hx : a.eval x = u) (hb : (xs.length + l.length) * by_ ≤ 140737488355328) (hm : xs.length + l.length ≤ maxLen) (hbase : base ≤ w.heap.size)
    (h : ∀ v' w', w'.ownsRow base e n v' (xs ++ l).length (LF fl (xs ++ l)) → w.grownBy w' v.ownBlock → wpList Try.prog ops Q rest (a.put o.dst v') w') : wpList Try.prog ops Q (o :: rest) a w := by
  obtain ⟨v', w', h1, h2, h3⟩ := run_append_gen E w base v _ _ u l hown hu hb hm hbase
  refine wpList_plain hgd fun K hK => ?_
  unfold Oper.wp execOp
  simp only [ho, hty, resolve, invoke, builtin, Sem.run_bind, Sem.run_pure, Result.andThen_ok, List.map_toArray, List.map_cons, List.map_nil, hs, hx]
  rw [h1]
  exact hK _ _ (h v' w' (by rw [List.length_append, LF_app]; exact h2) h3)
end
theorem info_elt {P : Program} {e : TypeId} {n b : Nat} (h : ((P.info? e).bind fun i => i.zero.map fun z => (i.size, i.bytes, z.cells.size)) = some (n, b, n)) : ∃ i z, P.info? e = some i ∧ i.zero = some z ∧ i.size = n ∧ i.bytes = b ∧ z.cells.size = n := by
  cases hi : P.info? e with
  | none => rw [hi] at h; cases h
  | some i =>
    rw [hi] at h
    cases hz : i.zero with
    | none => simp [hz] at h
    | some z =>
      simp [hz] at h
      exact ⟨i, z, rfl, hz, h.1, h.2.1, h.2.2⟩
/-- A byte in memory. -/
def bV (b : UInt8) : List Value := [.int .u8 b.toNat]
theorem bV_len (b : UInt8) : (bV b).length = 1 := rfl
theorem bV_one : ∀ (x : UInt8), ∀ u ∈ bV x, u.oneCell' = true := fun x u hu => by
  simp only [bV, List.mem_cons, List.not_mem_nil, or_false] at hu
  subst hu; rfl
theorem eltB : Elt 40 5 1 1 bV := ⟨Try.underlying40, by kernel_rfl, info_elt (by kernel_rfl), by decide, bV_one⟩
theorem eltS : Elt 49 9 1 16 (fun s : ByteArray => [Value.string s]) := ⟨Try.underlying49, by kernel_rfl, info_elt (by kernel_rfl), by decide, fun x u hu => by
  simp only [List.mem_cons, List.not_mem_nil, or_false] at hu
  subst hu; rfl⟩
theorem run_append_gen2 {t e : TypeId} {n by_ : Nat} {X : Type} {fl : X → List Value} (E : Elt t e n by_ fl) (w : World) (base : Nat) (v : Value) (m : Nat) (xs : List Value) (u : Value) (l : List X) (hown : w.ownsRow base e n v m xs) (hu : LAt n fl w u l) (hb : (m + l.length) * by_ ≤ 140737488355328) (hm63 : m + l.length ≤ maxLen) (hbase : base ≤ w.heap.size) :
    ∃ v' w', (Builtin.append_ #[t, t] t #[v, u]).run Try.prog w = .ok v' w' ∧ w'.ownsRow base e n v' (m + l.length) (xs ++ LF fl l) ∧ w.grownBy w' v.ownBlock ∧ (v'.ownBlock = v.ownBlock ∨ v'.ownBlock = some w.heap.size) := by
  obtain ⟨i0, z, hi, hz0, hz1, hz2, hzs⟩ := E.inf
  obtain ⟨hl, hu⟩ := hu
  rcases hu with ⟨p, cap, rfl, rfl⟩ | ⟨b, off, cap, rfl, hb2, hcap, hmax, hcell⟩
  · cases p with
    | none => exact ⟨v, w, gen_append_none base t t e i0 n cap E.tu hi v m xs hown, by simpa [LF] using hown, World.grownBy.refl _ _, .inl rfl⟩
    | some ad =>
      obtain ⟨v', w', h1, h2, h3, _, h4⟩ := run_append_own_at (P := Try.prog) w base t t e i0 z n by_ E.tu hi hz0 hz1 hz2 hzs E.pos v m xs hown ad 0 cap [] (by simp) (fun j u h => by simp at h) (fun u h => by simp at h) (by simpa using hm63) (by simpa using hb) hbase
      exact ⟨v', w', h1, by simpa [LF] using h2, h3, h4⟩
  · obtain ⟨v', w', h1, h2, h3, _, h4⟩ := run_append_own_at (P := Try.prog) w base t t e i0 z n by_ E.tu hi hz0 hz1 hz2 hzs E.pos v m xs hown ⟨b, off, none⟩ l.length cap (LF fl l) (LF_len l hl) (fun j y hj => by
      rw [gen_add_off]; exact hcell j y hj) (fun y hy => LF_mem E hy) hm63 hb hbase
    exact ⟨v', w', h1, h2, h3, h4⟩
end Go.Proofs.Ytbdlmdmbaajcmaa
namespace Go.Proofs.Ytbdlmdmbaajcmaa
set_option linter.unusedVariables false
set_option linter.unusedSimpArgs false
open Go.ChangeShapes Go.WideShapes Go.ChangeAt Go.RowKit
open Go.WideMaps (keyOf_string_mk string_of_keyOf)

/-- How a pointer among a map's elements reads. -/
def ptrV : Option Nat → Value
  | some B => .pointer (some ⟨B, 0, none⟩)
  | none => .pointer none
def ptrD : Option Nat → DataW Unit
  | some B => .lit (.int .i64 (B : Nat))
  | none => .lit (.int .i64 (-1))
def ptrR : Value → Option (DataW Unit × List MemPlace)
  | .pointer (some ⟨B, 0, none⟩) => some (ptrD (some B), [])
  | .pointer none => some (ptrD none, [])
  | _ => none
theorem ptrR_v (c : Option Nat) : ptrR (ptrV c) = some (ptrD c, []) := by cases c <;> rfl
theorem ptrR_inv {v : Value} {y : DataW Unit × List MemPlace} (h : ptrR v = some y) : ∃ c, v = ptrV c ∧ y = (ptrD c, []) := by
  unfold ptrR at h
  split at h
  · injection h with h; exact ⟨some _, rfl, h.symm⟩
  · injection h with h; exact ⟨none, rfl, h.symm⟩
  · cases h
theorem ptrD_inj {c c' : Option Nat} (h : ptrD c = ptrD c') : c = c' := by
  cases c <;> cases c' <;> simp only [ptrD, DataW.lit.injEq, Lit.int.injEq, true_and] at h
  · rfl
  · omega
  · omega
  · rw [Int.ofNat.inj h]
theorem key9 : Go.Maps.Keyed Try.prog 9 := Go.Maps.string_keyed Try.underlying9
theorem keyS {x : ByteArray} (hx : x.size ≤ maxLen) : keyOf Try.prog 9 (.string x) = some (.string x.data.toList) := keyOf_string_mk Try.underlying9 hx
theorem keyS_inv {key : Value} {kl : Lit} (h : keyOf Try.prog 9 key = some kl) : ∃ x : ByteArray, key = .string x ∧ kl = .string x.data.toList ∧ x.size ≤ maxLen := string_of_keyOf Try.underlying9 h
theorem zero64 (w : World) : (zeroValue 84).run Try.prog w = .ok (.pointer none) w := by
  have e : Try.t84.zero = some (.pointer none) := by kernel_rfl
  simp [zeroValue, go_sem, e]

/-- A file: its name, the block it lies in, its bytes' slice, its bytes, how many are safe. -/
structure Fl where
  nm : ByteArray
  B : Nat
  v : Value
  d : List UInt8
  s : Nat
def Fl.bl (f : Fl) : List Nat := f.B :: f.v.ownBlock.toList
theorem Fl.mem_bl {f : Fl} {k : Nat} : k ∈ f.bl ↔ k = f.B ∨ f.v.ownBlock = some k := by
  unfold Fl.bl
  cases f.v.ownBlock <;> simp [eq_comm]
structure Fok (w : World) (f : Fl) : Prop where
  box : w.heap[f.B]? = some (.cells #[f.v, .int .i64 (f.s : Nat)] 89 (0, 0))
  row : w.ownsRow 0 5 1 f.v f.d.length (LF bV f.d)
  le : f.s ≤ f.d.length
theorem own_lt0 {w : World} {v : Value} {n : Nat} {xs : List Value} (h : w.ownsRow 0 5 1 v n xs) {g : Nat} (hg : v.ownBlock = some g) : g < w.heap.size := (h.lt g hg).2
theorem Fok.lt {w : World} {f : Fl} (h : Fok w f) {k : Nat} (hk : k ∈ f.bl) : k < w.heap.size := by
  rcases Fl.mem_bl.1 hk with rfl | e
  · exact lt_of_block h.box
  · exact own_lt0 h.row e
theorem Fok.of_blocks {w w' : World} {f : Fl} (h : Fok w f) (e : ∀ k ∈ f.bl, w'.heap[k]? = w.heap[k]?) : Fok w' f := by
  refine ⟨(e f.B (Fl.mem_bl.2 (.inl rfl))).trans h.box, ⟨h.row.1, ?_⟩, h.le⟩
  rcases h.row.2 with h1 | ⟨g, cap, cur, hv, hb, hh, rest⟩
  · exact .inl h1
  · exact .inr ⟨g, cap, cur, hv, hb, (e g (Fl.mem_bl.2 (.inr (by rw [hv]; rfl)))).trans hh, rest⟩
def look (L : List Fl) (x : ByteArray) : Option Fl := L.find? (fun f => decide (f.nm = x))
theorem look_some {L : List Fl} {x : ByteArray} {f : Fl} (h : look L x = some f) : f ∈ L ∧ f.nm = x := by
  unfold look at h
  exact ⟨List.mem_of_find?_eq_some h, by simpa using List.find?_some h⟩
theorem look_none {L : List Fl} {x : ByteArray} (h : look L x = none) : ∀ f ∈ L, f.nm ≠ x := by
  unfold look at h
  intro f hf e
  have := List.find?_eq_none.1 h f hf
  simp [e] at this
theorem look_mem {L : List Fl} (hn : (L.map Fl.nm).Nodup) {f : Fl} (hf : f ∈ L) : look L f.nm = some f := by
  cases hl : look L f.nm with
  | none => exact absurd rfl (look_none hl f hf)
  | some g =>
    obtain ⟨hg, he⟩ := look_some hl
    have : g = f := by
      clear hl
      induction L with
      | nil => cases hf
      | cons a L ih =>
        rw [List.map_cons, List.nodup_cons] at hn
        rcases List.mem_cons.1 hf with rfl | hf2 <;> rcases List.mem_cons.1 hg with rfl | hg2
        · rfl
        · exact absurd (he ▸ List.mem_map_of_mem hg2) hn.1
        · exact absurd (he ▸ List.mem_map_of_mem hf2) hn.1
        · exact ih hn.2 hf2 hg2
    rw [this]
/-- A file put among them, in the place of the one of its name. -/
def upd (L : List Fl) (f' : Fl) : List Fl := if (look L f'.nm).isSome = true then L.map (fun g => if g.nm = f'.nm then f' else g) else L ++ [f']
def drp (L : List Fl) (x : ByteArray) : List Fl := L.filter (fun g => decide (g.nm ≠ x))
theorem upd_some {L : List Fl} {f f' : Fl} (h : look L f'.nm = some f) : upd L f' = L.map (fun g => if g.nm = f'.nm then f' else g) := by unfold upd; rw [h]; rfl
theorem upd_none {L : List Fl} {f' : Fl} (h : look L f'.nm = none) : upd L f' = L ++ [f'] := by unfold upd; rw [h]; rfl
theorem upd_mem {L : List Fl} {f' g : Fl} (h : g ∈ upd L f') : g = f' ∨ (g ∈ L ∧ g.nm ≠ f'.nm) := by
  cases hl : look L f'.nm with
  | none =>
    rw [upd_none hl] at h
    rcases List.mem_append.1 h with h | h
    · exact .inr ⟨h, look_none hl g h⟩
    · exact .inl (List.mem_singleton.1 h)
  | some f =>
    rw [upd_some hl] at h
    obtain ⟨g0, hg0, e⟩ := List.mem_map.1 h
    by_cases hn : g0.nm = f'.nm
    · rw [if_pos hn] at e; exact .inl e.symm
    · rw [if_neg hn] at e; subst e; exact .inr ⟨hg0, hn⟩
theorem upd_names {L : List Fl} {f' : Fl} (hn : (L.map Fl.nm).Nodup) : ((upd L f').map Fl.nm).Nodup := by
  cases hl : look L f'.nm with
  | none =>
    rw [upd_none hl, List.map_append, List.nodup_append]
    refine ⟨hn, by simp, fun a ha b hb e => ?_⟩
    simp only [List.map_cons, List.map_nil, List.mem_singleton] at hb
    obtain ⟨g, hg, rfl⟩ := List.mem_map.1 ha
    exact look_none hl g hg (e.trans hb)
  | some f =>
    rw [upd_some hl, List.map_map]
    have : (Fl.nm ∘ fun g => if g.nm = f'.nm then f' else g) = Fl.nm := by
      funext g
      simp only [Function.comp]
      split
      · rename_i h; exact h.symm
      · rfl
    rw [this]; exact hn
theorem look_upd {L : List Fl} {f' : Fl} (x : ByteArray) : look (upd L f') x = if f'.nm = x then some f' else look L x := by
  cases hl : look L f'.nm with
  | none =>
    rw [upd_none hl]
    unfold look at hl ⊢
    rw [List.find?_append]
    by_cases hx : f'.nm = x
    · subst hx
      rw [hl, if_pos rfl]
      simp
    · rw [if_neg hx]
      cases L.find? (fun f => decide (f.nm = x)) <;> simp [hx]
  | some f =>
    rw [upd_some hl]
    have key : ∀ M : List Fl, (∀ g ∈ M, True) → look (M.map (fun g => if g.nm = f'.nm then f' else g)) x = if f'.nm = x then (look M x).map (fun _ => f') else look M x := by
      intro M _
      unfold look
      induction M with
      | nil => simp
      | cons a M ih =>
        rw [List.map_cons, List.find?_cons, List.find?_cons]
        have ih := ih (fun _ _ => trivial)
        by_cases ha : a.nm = f'.nm
        · rw [if_pos ha]
          by_cases hx : f'.nm = x
          · rw [if_pos hx]
            simp [hx, ha]
          · rw [if_neg hx] at ih ⊢
            have h1 : decide (f'.nm = x) = false := decide_eq_false hx
            have h2 : decide (a.nm = x) = false := decide_eq_false (by rw [ha]; exact hx)
            rw [h1, h2]
            exact ih
        · rw [if_neg ha]
          by_cases hax : a.nm = x
          · have hx : ¬ f'.nm = x := fun e => ha (hax.trans e.symm)
            rw [if_neg hx]
            simp [hax]
          · have h2 : decide (a.nm = x) = false := decide_eq_false hax
            rw [h2]
            exact ih
    rw [key L (fun _ _ => trivial)]
    by_cases hx : f'.nm = x
    · rw [if_pos hx, if_pos hx, ← hx, hl]; rfl
    · rw [if_neg hx, if_neg hx]
theorem upd_len {L : List Fl} {f' : Fl} : (upd L f').length ≤ L.length + 1 := by
  unfold upd; split <;> simp
theorem drp_mem {L : List Fl} {x : ByteArray} {g : Fl} : g ∈ drp L x ↔ g ∈ L ∧ g.nm ≠ x := by
  unfold drp; rw [List.mem_filter, decide_eq_true_eq]
theorem drp_names {L : List Fl} {x : ByteArray} (hn : (L.map Fl.nm).Nodup) : ((drp L x).map Fl.nm).Nodup := hn.sublist (List.filter_sublist.map _)
theorem look_drp {L : List Fl} {x : ByteArray} (y : ByteArray) : look (drp L x) y = if y = x then none else look L y := by
  unfold look drp
  induction L with
  | nil => simp
  | cons a L ih =>
    rw [List.filter_cons]
    by_cases ha : a.nm = x
    · rw [if_neg (by simp [ha]), ih, List.find?_cons]
      by_cases hy : y = x
      · rw [if_pos hy, if_pos hy]
      · rw [if_neg hy, if_neg hy, decide_eq_false (fun e => hy (e.symm.trans ha))]
    · rw [if_pos (by simp [ha]), List.find?_cons, List.find?_cons, ih]
      by_cases hay : a.nm = y
      · have hyx : ¬ y = x := fun e => ha (hay.trans e)
        simp [hay, hyx]
      · rw [decide_eq_false hay]

/-- What stands in the device's own block. -/
structure Hd where
  room : Int
  acts : Int
  down : Bool
  left : Int
  keep : Int
  torn : Bool
def hdV (h : Hd) (mb : Nat) : Array Value := #[.int .i64 h.room, .map (some mb), .int .i64 h.acts, .bool h.down, .int .i64 h.left, .int .i64 h.keep, .bool h.torn]
/-- The map of the files. -/
structure MapOk (mb : Nat) (L : List Fl) (w : World) : Prop where
  own : ∃ D : DataW Unit, w.ownsMap Try.prog 9 ptrR mb L.length D ∧ Maps.size D = L.length ∧ ∀ x : ByteArray, x.size ≤ maxLen → ∀ z, D.atKey (.string x.data.toList) z = match look L x with | some f => ptrD (some f.B) | none => z
theorem ownsMap_of {w w' : World} {R : Value → Option (DataW Unit × List MemPlace)} {mb n : Nat} {D : DataW Unit} (h : w.ownsMap Try.prog 9 R mb n D) (e : w'.heap[mb]? = w.heap[mb]?) : w'.ownsMap Try.prog 9 R mb n D := by
  obtain ⟨es, clock, hb, rest⟩ := h
  exact ⟨es, clock, e.trans hb, rest⟩
theorem MapOk.of_block {w w' : World} {mb : Nat} {L : List Fl} (h : MapOk mb L w) (e : w'.heap[mb]? = w.heap[mb]?) : MapOk mb L w' := by
  obtain ⟨D, h1, h2, h3⟩ := h.own
  exact ⟨D, ownsMap_of h1 e, h2, h3⟩
theorem MapOk.lt {w : World} {mb : Nat} {L : List Fl} (h : MapOk mb L w) : mb < w.heap.size := by
  obtain ⟨D, h1, _⟩ := h.own
  exact h1.lt
set_option maxRecDepth 100000 in
/-- What is in the map at a name. -/
theorem MapOk.lkp {w : World} {mb : Nat} {L : List Fl} (h : MapOk mb L w) {x : ByteArray} (hx : x.size ≤ maxLen) : (Instr.lookup 68 (.map (some mb)) (.string x) false).run Try.prog w = .ok (ptrV ((look L x).map Fl.B)) w := by
  obtain ⟨D, h1, _, h2⟩ := h.own
  obtain ⟨v, ps, hrun, hv⟩ := h1.lookup key9 Try.underlying68 (zero64 w) (ptrR_v none) (keyS hx)
  obtain ⟨c, rfl, hc⟩ := ptrR_inv hv
  injection hc with hc _
  rw [h2 x hx] at hc
  have hcc : c = (look L x).map Fl.B := by
    apply ptrD_inj
    rw [← hc]
    cases look L x <;> rfl
  rw [hrun, hcc]

/-- A device: its block, its map, its files, each in blocks of its own, all of them in S. -/
structure Dev (S : Nat → Prop) (b : Nat) (h : Hd) (L : List Fl) (w : World) : Prop where
  f : ∃ mb, w.heap[b]? = some (.cells (hdV h mb) 72 (0, 0)) ∧ MapOk mb L w ∧ b ≠ mb ∧ (∀ f ∈ L, b ∉ f.bl ∧ mb ∉ f.bl ∧ f.v.ownBlock ≠ some f.B) ∧ S b ∧ S mb
  fo : ∀ f ∈ L, Fok w f
  nm : (L.map Fl.nm).Nodup
  n32 : ∀ f ∈ L, f.nm.size ≤ 32
  ff : ∀ f ∈ L, ∀ g ∈ L, f.nm ≠ g.nm → ∀ k ∈ f.bl, k ∉ g.bl
  ss : ∀ f ∈ L, ∀ k ∈ f.bl, S k
/-- All blocks that were there, but those in S, are as they were. -/
structure Kept (S : Nat → Prop) (w w' : World) : Prop where
  os : w'.os = w.os
  tape : w'.tape = w.tape
  output : w'.output = w.output
  size : w.heap.size ≤ w'.heap.size
  block : ∀ k, k < w.heap.size → ¬ S k → w'.heap[k]? = w.heap[k]?
/-- S, and all that was made since. -/
def Gr (S : Nat → Prop) (w w' : World) (k : Nat) : Prop := S k ∨ (w.heap.size ≤ k ∧ k < w'.heap.size)
theorem Kept.refl (S : Nat → Prop) (w : World) : Kept S w w := ⟨rfl, rfl, rfl, Nat.le_refl _, fun _ _ _ => rfl⟩
theorem Kept.trans {S : Nat → Prop} {a b c : World} (h : Kept S a b) (k : Kept (Gr S a b) b c) : Kept S a c :=
  ⟨k.os.trans h.os, k.tape.trans h.tape, k.output.trans h.output, Nat.le_trans h.size k.size, fun i hi hs => (k.block i (Nat.lt_of_lt_of_le hi h.size) (fun hg => by
    rcases hg with hg | hg
    · exact hs hg
    · omega)).trans (h.block i hi hs)⟩
theorem Kept.mono {S S' : Nat → Prop} {a b : World} (h : Kept S a b) (hs : ∀ k, S k → S' k) : Kept S' a b := ⟨h.os, h.tape, h.output, h.size, fun k hk hn => h.block k hk (fun x => hn (hs k x))⟩
theorem Kept.trans' {S : Nat → Prop} {a b c : World} (h : Kept S a b) (k : Kept S b c) : Kept S a c := h.trans (k.mono (fun _ x => .inl x))
theorem Kept.of_below {S : Nat → Prop} {w w' : World} (h : Below w.heap.size w w') : Kept S w w' := ⟨h.os, h.tape, h.output, h.size, fun k hk _ => h.block k hk⟩
theorem Kept.below {S : Nat → Prop} {w w' : World} {B : Nat} (h : Kept S w w') (hs : ∀ k, S k → B ≤ k) (hB : B ≤ w.heap.size) : Below B w w' :=
  ⟨h.os, h.tape, h.output, h.size, fun k hk => h.block k (Nat.lt_of_lt_of_le hk hB) (fun x => by have := hs k x; omega)⟩
theorem Gr.mono {S S' : Nat → Prop} {w w' : World} (h : ∀ k, S k → S' k) : ∀ k, Gr S w w' k → Gr S' w w' k := fun k hk => hk.imp (h k) id
theorem Gr.step {S : Nat → Prop} {a b c : World} (h : a.heap.size ≤ b.heap.size) (h2 : b.heap.size ≤ c.heap.size) : ∀ k, Gr (Gr S a b) b c k → Gr S a c k := fun k hk => by
  rcases hk with (hk | hk) | hk
  · exact .inl hk
  · exact .inr ⟨hk.1, by omega⟩
  · exact .inr ⟨by omega, hk.2⟩
theorem Gr.ge {S : Nat → Prop} {w w' : World} {B : Nat} (h : ∀ k, S k → B ≤ k) (hB : B ≤ w.heap.size) : ∀ k, Gr S w w' k → B ≤ k := fun k hk => by
  rcases hk with hk | hk
  · exact h k hk
  · omega
theorem Dev.mono {S S' : Nat → Prop} {b : Nat} {h : Hd} {L : List Fl} {w : World} (d : Dev S b h L w) (hs : ∀ k, S k → S' k) : Dev S' b h L w := by
  obtain ⟨mb, h1, h2, h3, h4, h5, h6⟩ := d.f
  exact ⟨⟨mb, h1, h2, h3, h4, hs _ h5, hs _ h6⟩, d.fo, d.nm, d.n32, d.ff, fun f hf k hk => hs _ (d.ss f hf k hk)⟩
theorem Dev.lt {S : Nat → Prop} {b : Nat} {h : Hd} {L : List Fl} {w : World} (d : Dev S b h L w) : b < w.heap.size := by
  obtain ⟨mb, h1, _⟩ := d.f
  exact lt_of_block h1
/-- A device stays while none of its blocks is written. -/
theorem Dev.of_blocks {S : Nat → Prop} {b : Nat} {h : Hd} {L : List Fl} {w w' : World} (d : Dev S b h L w) (e : ∀ k, k < w.heap.size → S k → w'.heap[k]? = w.heap[k]?) : Dev S b h L w' := by
  obtain ⟨mb, h1, h2, h3, h4, h5, h6⟩ := d.f
  exact ⟨⟨mb, (e b (lt_of_block h1) h5).trans h1, h2.of_block (e mb h2.lt h6), h3, h4, h5, h6⟩,
    fun f hf => (d.fo f hf).of_blocks (fun k hk => e k ((d.fo f hf).lt hk) (d.ss f hf k hk)), d.nm, d.n32, d.ff, d.ss⟩
theorem Dev.below {S : Nat → Prop} {b : Nat} {h : Hd} {L : List Fl} {w w' : World} (d : Dev S b h L w) (hB : Below w.heap.size w w') : Dev S b h L w' := d.of_blocks (fun k hk _ => hB.block k hk)
theorem Dev.kept {S S2 : Nat → Prop} {b : Nat} {h : Hd} {L : List Fl} {w w' : World} (d : Dev S b h L w) (hk : Kept S2 w w') (hd : ∀ k, S k → ¬ S2 k) : Dev S b h L w' := d.of_blocks (fun k h1 h2 => hk.block k h1 (hd k h2))
/-- The device's own block is written. -/
theorem Dev.setH {S : Nat → Prop} {b : Nat} {h h' : Hd} {L : List Fl} {w w' : World} (d : Dev S b h L w) (hb : ∀ mb, w.heap[b]? = some (.cells (hdV h mb) 72 (0, 0)) → w'.heap[b]? = some (.cells (hdV h' mb) 72 (0, 0))) (e : ∀ k, k < w.heap.size → k ≠ b → w'.heap[k]? = w.heap[k]?) : Dev S b h' L w' := by
  obtain ⟨mb, h1, h2, h3, h4, h5, h6⟩ := d.f
  exact ⟨⟨mb, hb mb h1, h2.of_block (e mb h2.lt (Ne.symm h3)), h3, h4, h5, h6⟩,
    fun f hf => (d.fo f hf).of_blocks (fun k hk => e k ((d.fo f hf).lt hk) (fun x => (h4 f hf).1 (x ▸ hk))), d.nm, d.n32, d.ff, d.ss⟩
/-- A file is written: in its own blocks, or in new ones. -/
theorem Dev.setF {S : Nat → Prop} {b : Nat} {h : Hd} {L : List Fl} {w w' : World} {f f' : Fl} (d : Dev S b h L w) (hf : f ∈ L) (hn : f'.nm = f.nm) (hB : f'.B = f.B) (ho : Fok w' f')
    (hsz : w.heap.size ≤ w'.heap.size) (e : ∀ k, k < w.heap.size → k ∉ f.bl → w'.heap[k]? = w.heap[k]?) (hv : ∀ g, f'.v.ownBlock = some g → f.v.ownBlock = some g ∨ w.heap.size ≤ g) : Dev (Gr S w w') b h (upd L f') w' := by
  obtain ⟨mb, h1, h2, h3, h4, h5, h6⟩ := d.f
  have hl : look L f'.nm = some f := by rw [hn]; exact look_mem d.nm hf
  have hfb := (d.fo f hf).lt (k := f.B) (Fl.mem_bl.2 (.inl rfl))
  have hbl : ∀ k ∈ f'.bl, k ∈ f.bl ∨ (w.heap.size ≤ k ∧ k < w'.heap.size) := fun k hk => by
    have hlt := ho.lt hk
    rcases Fl.mem_bl.1 hk with rfl | hk
    · exact .inl (Fl.mem_bl.2 (.inl hB))
    · rcases hv k hk with h | h
      · exact .inl (Fl.mem_bl.2 (.inr h))
      · exact .inr ⟨h, hlt⟩
  have hmem : ∀ g ∈ upd L f', g = f' ∨ (g ∈ L ∧ g.nm ≠ f.nm) := fun g hg => by have := upd_mem hg; rw [hn] at this; exact this
  have hlen : (upd L f').length = L.length := by rw [upd_some hl]; simp
  have hother : ∀ g ∈ L, g.nm ≠ f.nm → ∀ k ∈ g.bl, k ∉ f'.bl := fun g hg hne k hk hk' => by
    rcases hbl k hk' with h | h
    · exact d.ff g hg f hf hne k hk h
    · have := (d.fo g hg).lt hk; omega
  refine ⟨⟨mb, (e b (lt_of_block h1) (h4 f hf).1).trans h1, ?_, h3, ?_, .inl h5, .inl h6⟩, ?_, upd_names d.nm, ?_, ?_, ?_⟩
  · obtain ⟨D, q1, q2, q3⟩ := (h2.of_block (e mb h2.lt (h4 f hf).2.1)).own
    refine ⟨D, by rw [hlen]; exact q1, by rw [hlen]; exact q2, fun x hx z => ?_⟩
    rw [q3 x hx z, look_upd]
    by_cases hxx : f'.nm = x
    · rw [if_pos hxx, ← hxx, hl]
      show ptrD (some f.B) = ptrD (some f'.B)
      rw [hB]
    · rw [if_neg hxx]
  · intro g hg
    rcases hmem g hg with rfl | ⟨hg, _⟩
    · refine ⟨fun hk => ?_, fun hk => ?_, fun e2 => ?_⟩
      · rcases hbl b hk with h | h
        · exact (h4 f hf).1 h
        · have := lt_of_block h1; omega
      · rcases hbl mb hk with h | h
        · exact (h4 f hf).2.1 h
        · have := h2.lt; omega
      · rw [hB] at e2
        rcases hv _ e2 with h | h
        · exact (h4 f hf).2.2 h
        · omega
    · exact h4 g hg
  · intro g hg
    rcases hmem g hg with rfl | ⟨hg, hne⟩
    · exact ho
    · exact (d.fo g hg).of_blocks (fun k hk => e k ((d.fo g hg).lt hk) (d.ff g hg f hf hne k hk))
  · intro g hg
    rcases hmem g hg with rfl | ⟨hg, _⟩
    · rw [hn]; exact d.n32 f hf
    · exact d.n32 g hg
  · intro g hg g2 hg2 hne k hk
    rcases hmem g hg with e1 | ⟨hgm, h1n⟩ <;> rcases hmem g2 hg2 with e2 | ⟨hgm2, h2n⟩
    · exact absurd (by rw [e1, e2]) hne
    · rw [e1] at hk
      exact fun hk2 => hother g2 hgm2 h2n k hk2 hk
    · rw [e2]
      exact hother g hgm h1n k hk
    · exact d.ff g hgm g2 hgm2 hne k hk
  · intro g hg k hk
    rcases hmem g hg with rfl | ⟨hg, _⟩
    · rcases hbl k hk with h | h
      · exact .inl (d.ss f hf k h)
      · exact .inr h
    · exact .inl (d.ss g hg k hk)
end Go.Proofs.Ytbdlmdmbaajcmaa
namespace Go.Proofs.Ytbdlmdmbaajcmaa
set_option linter.unusedVariables false
set_option linter.unusedSimpArgs false
open Go.ChangeShapes Go.WideShapes Go.ChangeAt Go.RowKit

def goodN (x : ByteArray) : Bool := decide (1 ≤ x.size) && decide (x.size ≤ 32)
theorem empty_is (x : ByteArray) : x.toList.isEmpty = decide (x.size = 0) := by
  rw [Lib.toList_data, Lib.size_eq]
  cases x.data.toList <;> simp
theorem empty_eq (x : ByteArray) : x.toList = [] ↔ x.size = 0 := by
  rw [Lib.toList_data, Lib.size_eq]
  cases x.data.toList <;> simp
theorem goodN_size {x : ByteArray} (h : goodN x = true) : 1 ≤ x.size ∧ x.size ≤ 32 := by
  unfold goodN at h
  rw [Bool.and_eq_true, decide_eq_true_eq, decide_eq_true_eq] at h
  exact h
set_option maxRecDepth 100000 in
theorem named_any (x : ByteArray) (w : World) : Calls Try.prog 71 #[.string x] w fun e w' => e = .returned (.bool (goodN x)) ∧ w = w' := by
  have he := empty_is x
  by_cases h1 : x.size = 0
  · rw [decide_eq_true h1] at he
    have hp : x.toList = [] := (empty_eq x).2 h1
    have hg : goodN x = false := by unfold goodN; rw [h1]; rfl
    rw [hg]
    clear h1 hg
    go_enter Try.func71, Try.ntmps71
    go_wp2_with fail
    go_ret
    exact ⟨rfl, rfl⟩
  · rw [decide_eq_false h1] at he
    have hp : ¬ x.toList = [] := fun h => h1 ((empty_eq x).1 h)
    by_cases h2 : x.size ≤ 32
    · have h2I : (x.size : Int) ≤ 32 := by omega
      have hg : goodN x = true := by unfold goodN; rw [decide_eq_true (show 1 ≤ x.size by omega), decide_eq_true h2]; rfl
      rw [hg]
      clear h1 h2 hg
      go_enter Try.func71, Try.ntmps71
      go_wp2_with fail
      go_ret
      exact ⟨rfl, rfl⟩
    · have h2I : ¬ (x.size : Int) ≤ 32 := by omega
      have hg : goodN x = false := by unfold goodN; rw [decide_eq_false h2, Bool.and_false]
      rw [hg]
      clear h1 h2 hg
      go_enter Try.func71, Try.ntmps71
      go_wp2_with fail
      go_ret
      exact ⟨rfl, rfl⟩
def readyE (h : Hd) (x : ByteArray) : Int := if h.down = true then 7 else if goodN x = true then 0 else 1
set_option maxRecDepth 100000 in
theorem ready_any {S : Nat → Prop} {b : Nat} {h : Hd} {L : List Fl} {w : World} (d : Dev S b h L w) (x : ByteArray) : Calls Try.prog 63 #[.pointer (some ⟨b, 0, none⟩), .string x] w fun e w' => e = .returned (.int .i64 (readyE h x)) ∧ w = w' := by
  obtain ⟨mb, hb, _⟩ := d.f
  have HN := Lib.hid (fun w1 => named_any x w1)
  obtain ⟨room, acts, down, left, keep, torn⟩ := h
  have c3 : w.cell? ⟨b, 3, none⟩ = some (.bool down) := block_cell hb 3
  simp only [readyE]
  clear d hb
  cases down with
  | true =>
    go_enter Try.func63, Try.ntmps63
    go_wp2_with fail
    go_ret
    exact ⟨rfl, rfl⟩
  | false =>
    cases hg : goodN x with
    | true =>
      rw [hg] at HN
      go_enter Try.func63, Try.ntmps63
      go_wp2_with fail
      refine (HN.out _).mono ?_
      rintro e1 w1 ⟨rfl, rfl⟩
      go_wp2_with fail
      go_ret
      exact ⟨rfl, rfl⟩
    | false =>
      rw [hg] at HN
      go_enter Try.func63, Try.ntmps63
      go_wp2_with fail
      refine (HN.out _).mono ?_
      rintro e1 w1 ⟨rfl, rfl⟩
      go_wp2_with fail
      go_ret
      exact ⟨rfl, rfl⟩
set_option maxRecDepth 100000 in
theorem ready_nil (x : ByteArray) (w : World) : Calls Try.prog 63 #[.pointer none, .string x] w fun e w' => e = .returned (.int .i64 2) ∧ w = w' := by
  go_enter Try.func63, Try.ntmps63
  go_wp2_with fail
  go_ret
  exact ⟨rfl, rfl⟩
/-- What find answers. -/
def findP (h : Hd) (L : List Fl) (x : ByteArray) : Value := if readyE h x ≠ 0 then .pointer none else ptrV ((look L x).map Fl.B)
def findE (h : Hd) (L : List Fl) (x : ByteArray) : Int := if readyE h x ≠ 0 then readyE h x else if (look L x).isSome = true then 0 else 5
theorem readyE_ok {h : Hd} {x : ByteArray} (hr : readyE h x = 0) : h.down = false ∧ goodN x = true := by
  unfold readyE at hr
  split at hr
  · cases hr
  · split at hr
    · rename_i h1 h2; exact ⟨by simpa using h1, h2⟩
    · cases hr
set_option maxRecDepth 100000 in
theorem find_any {S : Nat → Prop} {b : Nat} {h : Hd} {L : List Fl} {w : World} (d : Dev S b h L w) (x : ByteArray) : Calls Try.prog 39 #[.pointer (some ⟨b, 0, none⟩), .string x] w fun e w' => e = .returned (.tuple #[findP h L x, .int .i64 (findE h L x)]) ∧ w = w' := by
  have HR := Lib.hid (ready_any d x)
  obtain ⟨mb, hb, hm, _⟩ := d.f
  have c1 : w.cell? ⟨b, 1, none⟩ = some (.map (some mb)) := block_cell hb 1
  unfold findP findE
  clear d
  by_cases hr : readyE h x = 0
  · have hx := (goodN_size (readyE_ok hr).2).2
    have hlk := hm.lkp (x := x) (by unfold maxLen; omega)
    rw [hr] at HR
    rw [if_neg (by rw [hr]; decide), if_neg (by rw [hr]; decide)]
    clear hr hb hm
    cases hl : look L x with
    | none =>
      rw [hl] at hlk
      replace hlk : (Instr.lookup 68 (.map (some mb)) (.string x) false).run Try.prog w = .ok (.pointer none) w := hlk
      clear hl
      go_enter Try.func39, Try.ntmps39
      go_wp2_with fail
      refine HR.out.mono ?_
      rintro e1 w1 ⟨rfl, rfl⟩
      go_wp2_with fail
      go_ret2
      exact ⟨rfl, rfl⟩
    | some f =>
      rw [hl] at hlk
      replace hlk : (Instr.lookup 68 (.map (some mb)) (.string x) false).run Try.prog w = .ok (.pointer (some ⟨f.B, 0, none⟩)) w := hlk
      clear hl
      go_enter Try.func39, Try.ntmps39
      go_wp2_with fail
      refine HR.out.mono ?_
      rintro e1 w1 ⟨rfl, rfl⟩
      go_wp2_with fail
      go_ret2
      exact ⟨rfl, rfl⟩
  · rw [if_pos hr, if_pos hr]
    generalize readyE h x = r at *
    have hrb : (r != 0) = true := by simpa using hr
    have hrc : (r == 0) = false := by simpa using hr
    clear hr hb hm
    go_enter Try.func39, Try.ntmps39
    go_wp2_with fail
    refine HR.out.mono ?_
    rintro e1 w1 ⟨rfl, rfl⟩
    go_wp2_with fail
    go_ret2
    exact ⟨rfl, rfl⟩
set_option maxRecDepth 100000 in
theorem find_nil (x : ByteArray) (w : World) : Calls Try.prog 39 #[.pointer none, .string x] w fun e w' => e = .returned (.tuple #[.pointer none, .int .i64 2]) ∧ w = w' := by
  have HR := Lib.hid (ready_nil x w)
  go_enter Try.func39, Try.ntmps39
  go_wp2_with fail
  refine HR.out.mono ?_
  rintro e1 w1 ⟨rfl, rfl⟩
  go_wp2_with fail
  go_ret2
  exact ⟨rfl, rfl⟩
end Go.Proofs.Ytbdlmdmbaajcmaa
namespace Go.Proofs.Ytbdlmdmbaajcmaa
set_option linter.unusedVariables false
set_option linter.unusedSimpArgs false
open Go.ChangeShapes Go.WideShapes Go.ChangeAt Go.RowKit

theorem set_other (w : World) (b i k : Nat) (v : Value) (h : k ≠ b) : (w.setCell ⟨b, i, none⟩ v).heap[k]? = w.heap[k]? := Below.heap_setCell _ _ _ _ h
theorem Kept.setCell {S : Nat → Prop} {w w' : World} (h : Kept S w w') {b : Nat} (hb : S b ∨ w.heap.size ≤ b) (i : Nat) (v : Value) : Kept S w (w'.setCell ⟨b, i, none⟩ v) :=
  ⟨h.os, h.tape, h.output, by simp [World.setCell]; exact h.size, fun k hk hs => (set_other _ _ _ _ _ (fun e => by
    rcases hb with hb | hb
    · exact hs (e ▸ hb)
    · omega)).trans (h.block k hk hs)⟩
def NewS (n k : Nat) : Prop := n ≤ k ∧ k < n + 2
def newH (room : Int) : Hd := ⟨min (max room 0) 1048576, 0, false, 0, 0, false⟩
theorem map_made (w : World) : MapOk w.heap.size [] (w.alloc (.map #[] 0)) :=
  ⟨.map [], World.ownsMap_made w Try.prog 9 ptrR, rfl, fun x _ z => rfl⟩
theorem new_dev (room : Int) (w : World) : Dev (NewS w.heap.size) (w.heap.size + 1) (newH room) [] ((w.alloc (.map #[] 0)).alloc (.cells (hdV (newH room) w.heap.size) 72)) := by
  have h := heap_alloc_new (w.alloc (.map #[] 0)) (.cells (hdV (newH room) w.heap.size) 72)
  have e : (w.alloc (.map #[] 0)).heap.size = w.heap.size + 1 := by simp
  rw [e] at h
  refine ⟨⟨w.heap.size, h, (map_made w).of_block ?_, by omega, fun f hf => by (cases hf), ⟨by omega, by omega⟩, ⟨by omega, by omega⟩⟩, fun f hf => by (cases hf), List.nodup_nil, fun f hf => by (cases hf), fun f hf => by (cases hf), fun f hf => by (cases hf)⟩
  exact ((Below.refl _ (w.alloc (.map #[] 0))).alloc (Nat.le_refl _) _).block _ (by rw [e]; omega)
set_option maxRecDepth 100000 in
theorem new_any (room : Int) (w : World) : Calls Try.prog 11 #[.int .i64 room] w fun e w' => e = .returned (.pointer (some ⟨w.heap.size + 1, 0, none⟩)) ∧ Dev (NewS w.heap.size) (w.heap.size + 1) (newH room) [] w' ∧ Below w.heap.size w w' ∧ w'.heap.size = w.heap.size + 2 := by
  have hmm := @run_makeMap Try.prog
  have HD := Lib.hid (new_dev room w)
  have HB := Lib.hid (((Below.refl _ w).alloc (Nat.le_refl _) (.map #[] 0)).alloc (by simp) (.cells (hdV (newH room) w.heap.size) 72))
  have Hsz : Hid (((w.alloc (.map #[] 0)).alloc (.cells (hdV (newH room) w.heap.size) 72)).heap.size = w.heap.size + 2) := Lib.hid (by simp)
  obtain ⟨r, hr⟩ : ∃ r, r = (newH room).room := ⟨_, rfl⟩
  have hv : hdV (newH room) w.heap.size = #[.int .i64 r, .map (some w.heap.size), .int .i64 0, .bool false, .int .i64 0, .int .i64 0, .bool false] := by rw [hr]; rfl
  rw [hv] at HD HB Hsz
  have hr2 : r = min (max room 0) 1048576 := hr
  clear hv hr
  generalize newH room = nh at *
  rcases (by omega : room < 0 ∨ (0 ≤ room ∧ room ≤ 1048576) ∨ 1048576 < room) with h | ⟨h, h2⟩ | h
  · obtain rfl : r = 0 := by omega
    clear hr2
    have h3 : ¬ 0 ≤ room := by omega
    go_enter Try.func11, Try.ntmps11
    go_wp2_with fail
    go_ret
    exact ⟨rfl, HD.out, HB.out, Hsz.out⟩
  · obtain rfl : r = room := by omega
    clear hr2
    go_enter Try.func11, Try.ntmps11
    go_wp2_with fail
    go_ret
    exact ⟨rfl, HD.out, HB.out, Hsz.out⟩
  · obtain rfl : r = 1048576 := by omega
    clear hr2
    have h3 : 0 ≤ room := by omega
    have h4 : ¬ room ≤ 1048576 := by omega
    go_enter Try.func11, Try.ntmps11
    go_wp2_with fail
    go_ret
    exact ⟨rfl, HD.out, HB.out, Hsz.out⟩
set_option maxRecDepth 100000 in
theorem on_any {S : Nat → Prop} {b : Nat} {h : Hd} {L : List Fl} {w : World} (d : Dev S b h L w) : Calls Try.prog 30 #[.pointer (some ⟨b, 0, none⟩)] w fun e w' => e = .returned (.tuple #[]) ∧ Dev S b { h with down := false } L w' ∧ Kept S w w' ∧ w'.heap.size = w.heap.size := by
  obtain ⟨room, acts, down, left, keep, torn⟩ := h
  have HD := Lib.hid d
  obtain ⟨mb, hb, _, _, _, hS, _⟩ := d.f
  have c3 : w.cell? ⟨b, 3, none⟩ = some (.bool down) := block_cell hb 3
  have f3 := block_free hb 3
  have HE : Hid (Dev S b ⟨room, acts, false, left, keep, torn⟩ L (w.setCell ⟨b, 3, none⟩ (.bool false))) := Lib.hid (d.setH (fun mb hb => by
    have := block_set (i := 3) (u := .bool false) hb
    exact this) (fun k _ hk => set_other _ _ _ _ _ hk))
  have HK := Lib.hid ((Kept.refl S w).setCell (.inl hS) 3 (.bool false))
  have HZ : Hid ((w.setCell ⟨b, 3, none⟩ (.bool false)).heap.size = w.heap.size) := Lib.hid (by simp [World.setCell])
  clear d hb hS
  go_enter Try.func30, Try.ntmps30
  go_wp2_with fail
  exact bodyPost_end (v := .tuple #[]) (by simp [results, Try.results30]) rfl ⟨rfl, HE.out, HK.out, HZ.out⟩
set_option maxRecDepth 100000 in
theorem arm_any {S : Nat → Prop} {b : Nat} {h : Hd} {L : List Fl} {w : World} (d : Dev S b h L w) (n k : Int) (torn : Bool) : Calls Try.prog 27 #[.pointer (some ⟨b, 0, none⟩), .int .i64 n, .int .i64 k, .bool torn] w fun e w' => e = .returned (.tuple #[]) ∧ Dev S b { h with left := max n 0, keep := k, torn := torn } L w' ∧ Kept S w w' ∧ w'.heap.size = w.heap.size := by
  obtain ⟨room, acts, down, left, keep, torn0⟩ := h
  obtain ⟨mb, hb, _, _, _, hS, _⟩ := d.f
  have c4 : w.cell? ⟨b, 4, none⟩ = some (.int .i64 left) := block_cell hb 4
  have c5 : w.cell? ⟨b, 5, none⟩ = some (.int .i64 keep) := block_cell hb 5
  have c6 : w.cell? ⟨b, 6, none⟩ = some (.bool torn0) := block_cell hb 6
  have f4 := block_free hb 4
  have f5 := block_free hb 5
  have f6 := block_free hb 6
  have HE : Hid (Dev S b ⟨room, acts, down, max n 0, k, torn⟩ L (((w.setCell ⟨b, 4, none⟩ (.int .i64 (max n 0))).setCell ⟨b, 5, none⟩ (.int .i64 k)).setCell ⟨b, 6, none⟩ (.bool torn))) := Lib.hid (d.setH (fun mb hb => by
    have h1 := block_set (i := 4) (u := .int .i64 (max n 0)) hb
    have h2 := block_set (i := 5) (u := .int .i64 k) h1
    have h3 := block_set (i := 6) (u := .bool torn) h2
    exact h3) (fun k _ hk => by rw [set_other _ _ _ _ _ hk, set_other _ _ _ _ _ hk, set_other _ _ _ _ _ hk]))
  have HK := Lib.hid ((((Kept.refl S w).setCell (.inl hS) 4 (.int .i64 (max n 0))).setCell (.inl hS) 5 (.int .i64 k)).setCell (.inl hS) 6 (.bool torn))
  have HZ : Hid ((((w.setCell ⟨b, 4, none⟩ (.int .i64 (max n 0))).setCell ⟨b, 5, none⟩ (.int .i64 k)).setCell ⟨b, 6, none⟩ (.bool torn)).heap.size = w.heap.size) := Lib.hid (by simp [World.setCell])
  clear d hb hS
  by_cases hn : 0 ≤ n
  · rw [Int.max_eq_left hn] at HE HK HZ ⊢
    go_enter Try.func27, Try.ntmps27
    go_wp2_with fail
    exact bodyPost_end (v := .tuple #[]) (by simp [results, Try.results27]) rfl ⟨rfl, HE.out, HK.out, HZ.out⟩
  · rw [Int.max_eq_right (by omega)] at HE HK HZ ⊢
    go_enter Try.func27, Try.ntmps27
    go_wp2_with fail
    exact bodyPost_end (v := .tuple #[]) (by simp [results, Try.results27]) rfl ⟨rfl, HE.out, HK.out, HZ.out⟩
theorem own_nil {w : World} {B : Nat} : w.ownsRow B 5 1 (.slice none 0 0) 0 (LF bV []) := ⟨by simp [LF], .inl ⟨rfl, rfl⟩⟩
theorem wpList_append_run {t : TypeId} {ops : Array Oper} {rest : List Oper} {o : Oper} {a : Act} {w w' : World} {v u v' : Value} {Q : Exit → Act → World → Prop} (hgd : o.guard = none) (s x : Operand)
    (ho : o.op = .call { callee := .builtin .append, args := #[s, x], argTypes := #[t, t] }) (hty : o.type = t) (hs : a.eval s = v) (hx : a.eval x = u) (hr : (Builtin.append_ #[t, t] t #[v, u]).run Try.prog w = .ok v' w')
    (h : wpList Try.prog ops Q rest (a.put o.dst v') w') : wpList Try.prog ops Q (o :: rest) a w := by
  refine wpList_plain hgd fun K hK => ?_
  unfold Oper.wp execOp
  simp only [ho, hty, resolve, invoke, builtin, Sem.run_bind, Sem.run_pure, Result.andThen_ok, List.map_toArray, List.map_cons, List.map_nil, hs, hx]
  rw [hr]
  exact hK _ _ h
theorem eq_nil (p : Option Addr) (n c : Nat) (w : World) : (binOp .eql 40 (.slice p n c) (.slice none 0 0)).run Try.prog w = .ok (.bool p.isNone) w := by
  simp [binOp, go_sem, run_equal_slice_nil w 40 5 p n c Try.underlying40]
set_option maxRecDepth 100000 in
theorem clone_any (v : Value) (l : List UInt8) (w : World) (hv : w.ownsRow 0 5 1 v l.length (LF bV l)) (hl : l.length ≤ 16777216) : Calls Try.prog 40 #[v] w fun e w' => ∃ v', e = .returned v' ∧ w'.ownsRow w.heap.size 5 1 v' l.length (LF bV l) ∧ Below w.heap.size w w' := by
  have HL := Lib.hid (LAt.own (n := 1) (fl := bV) (fun x _ => bV_len x) hv)
  rcases hv.2 with ⟨rfl, h0⟩ | ⟨g, cap, cur, rfl, rest⟩
  · obtain rfl : l = [] := List.eq_nil_of_length_eq_zero h0
    clear hv
    have hnil : ∀ w1, (binOp .eql 40 (.slice none 0 0) (.slice none 0 0)).run Try.prog w1 = .ok (.bool true) w1 := fun w1 => eq_nil none 0 0 w1
    go_enter Try.func40, Try.ntmps40
    go_wp2_with fail
    go_ret
    exact ⟨_, rfl, own_nil, Below.refl _ _⟩
  · clear hv rest
    have HB := Lib.hid ((Below.refl _ w).alloc (Nat.le_refl _) (.cells #[] 5))
    obtain ⟨v', w', hr, ho, hB⟩ := run_append_first_gen eltB (w.alloc (.cells #[] 5)) w.heap.size w.heap.size (.slice (some ⟨g, 0, none⟩) l.length cap) l (heap_alloc_new w _) (Nat.le_refl _) (HL.out.below HB.out) (by omega) HB.out.size
    have HO := Lib.hid ho
    have HB2 := Lib.hid (HB.out.trans (hB.mono HB.out.size))
    clear ho hB
    have hnil : ∀ w1, (binOp .eql 40 (.slice (some ⟨g, 0, none⟩) l.length cap) (.slice none 0 0)).run Try.prog w1 = .ok (.bool false) w1 := fun w1 => eq_nil _ _ _ w1
    go_enter Try.func40, Try.ntmps40
    go_wp2_with (first | (at_builtin; go_must (refine wpList_append_run rfl (.tmp 5) (.tmp 6) rfl rfl rfl rfl hr ?_)))
    go_ret
    exact ⟨_, rfl, HO.out, HB2.out⟩
theorem findE_ok {h : Hd} {L : List Fl} {x : ByteArray} (he : findE h L x = 0) : readyE h x = 0 ∧ ∃ f, look L x = some f ∧ findP h L x = .pointer (some ⟨f.B, 0, none⟩) := by
  unfold findE at he
  by_cases h1 : readyE h x = 0
  · rw [if_neg (by rw [h1]; decide)] at he
    cases hl : look L x with
    | none => rw [hl] at he; cases he
    | some f => exact ⟨h1, f, rfl, by unfold findP; rw [if_neg (by rw [h1]; decide), hl]; rfl⟩
  · rw [if_pos h1] at he; exact absurd he h1
theorem row_shape {w : World} {f : Fl} (h : Fok w f) : ∃ p c, f.v = .slice p f.d.length c := by
  rcases h.row.2 with ⟨h1, h2⟩ | ⟨g, cap, cur, h1, _⟩
  · exact ⟨none, 0, by rw [h1, h2]⟩
  · exact ⟨_, cap, h1⟩
set_option maxRecDepth 100000 in
theorem read_ok {S : Nat → Prop} {b : Nat} {h : Hd} {L : List Fl} {w : World} (d : Dev S b h L w) (hd : ∀ f ∈ L, f.d.length ≤ 16777216) (x : ByteArray) (he : findE h L x = 0) : Calls Try.prog 15 #[.pointer (some ⟨b, 0, none⟩), .string x] w fun e w' => ∃ v' f, e = .returned (.tuple #[v', .int .i64 0]) ∧ Below w.heap.size w w' ∧ look L x = some f ∧ w'.ownsRow w.heap.size 5 1 v' f.d.length (LF bV f.d) := by
  have HF := Lib.hid (find_any d x)
  obtain ⟨_, f, hl, hp⟩ := findE_ok he
  rw [hp, he] at HF
  have hfo := d.fo f (look_some hl).1
  have HC := Lib.hid (clone_any f.v f.d w hfo.row (hd f (look_some hl).1))
  have c0 : w.cell? ⟨f.B, 0, none⟩ = some f.v := block_cell hfo.box 0
  have Hl := Lib.hid hl
  obtain ⟨pv, cv, hv⟩ := row_shape hfo
  rw [hv] at c0 HC
  clear hl hp hfo he d hv
  go_enter Try.func15, Try.ntmps15
  go_wp2_with fail
  refine HF.out.mono ?_
  rintro e1 w1 ⟨rfl, rfl⟩
  go_wp2_with fail
  refine HC.out.mono ?_
  rintro e1 w1 ⟨v', rfl, ho, hB⟩
  have HO := Lib.hid ho
  have HB := Lib.hid hB
  clear ho hB
  go_wp2_with fail
  go_ret2
  exact ⟨v', f, rfl, HB.out, Hl.out, HO.out⟩
set_option maxRecDepth 100000 in
theorem read_err {S : Nat → Prop} {b : Nat} {h : Hd} {L : List Fl} {w : World} (d : Dev S b h L w) (x : ByteArray) (he : findE h L x ≠ 0) : Calls Try.prog 15 #[.pointer (some ⟨b, 0, none⟩), .string x] w fun e w' => e = .returned (.tuple #[.slice none 0 0, .int .i64 (findE h L x)]) ∧ w = w' := by
  have HF := Lib.hid (find_any d x)
  generalize findE h L x = r at *
  generalize findP h L x = p at *
  have hrb : (r != 0) = true := by simpa using he
  have hrc : (r == 0) = false := by simpa using he
  clear he d
  go_enter Try.func15, Try.ntmps15
  go_wp2_with fail
  refine HF.out.mono ?_
  rintro e1 w1 ⟨rfl, rfl⟩
  go_wp2_with fail
  go_ret2
  exact ⟨rfl, rfl⟩
end Go.Proofs.Ytbdlmdmbaajcmaa
