/- Opening of arguments of whatever plain type: a text, a number, a truth, a row of bytes, a struct of such, a list of such; piece by piece; Inputs and changes: their cells, their openings, and that they are held against each other by value; Walks: two lists of inputs, two lists of changes, held against each other; Plain: in what two rising lists part; by going through both, and by the document; Walks: which of two lists' heads is first; the theory of changes; Walks: whether a list rises; whether a list is odd; Walks: whether a list is odd. -/
import Derived.WalkKit
import Derived.ProofKit
import Derived.Below
import Derived.OneCell
import Derived.SizedLaws
import Derived.Lib.Hide
import Derived.SliceStrings
import Derived.Lib.Strings
import Derived.OpenShut
import Derived.Deep.Slices
import Derived.Test.YtdhaanaenklleaaGreatDoorProg
import Derived.WalkSpells
import Derived.DeepKeys
import Derived.Test.YtdhaanaenklleaaGreatDoorQ1
import Derived.WalkLawsBesides
import Derived.Deep.DeepFit
import Derived.RegionTactic
import Derived.ChangeAlike
import Derived.Deep.QuietTactic
import Derived.Deep.LoopGhost
import Derived.BigQuiet
import Derived.Laws.MakeOwn
import Derived.Laws.AppendOwn
import Derived.Deep.DeepMust
import Derived.Maps.AppendAt
import Derived.Deep.MidRow
import Derived.Test.YtdhaanaenklleaaGreatDoorQ2
import Derived.Great.BuildSlice
import Derived.Laws.CopyOwn
namespace Go.Proofs.YtdhaanaenklleaaGreatDoor
open Go.RowKit
set_option linter.unusedVariables false

def Opens (P : Program) (W : World) (t : TypeId) {X : Type} (R : X → List Value → Prop) : Prop :=
  ∀ (H : Type) (enc : TypeId × Value → H) (base fuel : Nat) (cs : List Value) (d : DataW H) (p : List MemPlace),
    DataW.trod enc P W base (fun _ => true) true fuel t cs = some (d, p) → (∀ n ∈ d.weights P t, n ≤ 140737488351232) → (∀ x ∈ p, x.block < W.heap.size) → ∃ x, R x cs
def strR (s : ByteArray) (cs : List Value) : Prop := cs = [.string s] ∧ s.size ≤ 140737488351232
def boolR (b : Bool) (cs : List Value) : Prop := cs = [.bool b]
theorem opens_str {P : Program} {W : World} {t : TypeId} (ht : P.underlying t = some .string) : Opens P W t strR := by
  intro H enc base fuel cs d p h hw hp
  obtain ⟨s, rfl, hx, _⟩ := DataW.trod_string ht h
  cases hx
  exact ⟨s, rfl, by rw [Lib.size_eq]; exact hw _ (by simp [DataW.weights])⟩
/-- A row of n bytes. -/
def bytR (n : Nat) (l : List UInt8) (cs : List Value) : Prop := cs = l.map (fun (b : UInt8) => Value.int .u8 (b.toNat : Int)) ∧ l.length = n
/-! ### Structs -/
def nilR (_ : Unit) (cs : List Value) : Prop := cs = []
def consR {X Y : Type} (R : X → List Value → Prop) (S : Y → List Value → Prop) (x : X × Y) (cs : List Value) : Prop := ∃ a b, cs = a ++ b ∧ R x.1 a ∧ S x.2 b
def OpensF (P : Program) (W : World) (N : Nat) (fs : List Field) (o : Nat) {X : Type} (S : X → List Value → Prop) : Prop :=
  ∀ (H : Type) (enc : TypeId × Value → H) (base n : Nat) (cs : List Value) (ys : List (DataW H × List MemPlace)), cs.length = N → ys.length = fs.length →
    (∀ (j : Nat) (f : Field), fs[j]? = some f → DataW.trod enc P W base (fun _ => true) true n f.type ((cs.drop f.offset).take (P.cellsOf f.type)) = ys[j]?) →
    (∀ m ∈ DataW.weightsEach P (fs.map (·.type)) (ys.map (·.1)), m ≤ 140737488351232) → (∀ x ∈ ys.flatMap (·.2), x.block < W.heap.size) → ∃ x, S x (cs.drop o)
theorem opensF_nil {P : Program} {W : World} {N : Nat} : OpensF P W N [] N nilR := by
  intro H enc base n cs ys hl _ _ _ _
  exact ⟨(), List.drop_eq_nil_of_le (by omega)⟩
theorem opensF_cons {P : Program} {W : World} {N : Nat} {f : Field} {fs : List Field} {o k : Nat} {X Y : Type} {R : X → List Value → Prop} {S : Y → List Value → Prop}
    (ho : f.offset = o) (hk : P.cellsOf f.type = k) (h : Opens P W f.type R) (hs : OpensF P W N fs (o + k) S) : OpensF P W N (f :: fs) o (consR R S) := by
  intro H enc base n cs ys hl hyl hat hw hp
  match ys, hyl with
  | y :: ys, hyl =>
    have h0 := hat 0 f rfl
    rw [ho, hk] at h0
    have h1 : DataW.trod enc P W base (fun _ => true) true n f.type ((cs.drop o).take k) = some (y.1, y.2) := h0
    have hw' : ∀ m, m ∈ y.1.weights P f.type ∨ m ∈ DataW.weightsEach P (fs.map (·.type)) (ys.map (·.1)) → m ≤ 140737488351232 := fun m hm => hw m (by
      simp only [List.map_cons, DataW.weightsEach, List.mem_append]; exact hm)
    have hp' : ∀ x, x ∈ y.2 ∨ x ∈ ys.flatMap (·.2) → x.block < W.heap.size := fun x hx => hp x (by
      rw [List.flatMap_cons, List.mem_append]; exact hx)
    obtain ⟨x, hx⟩ := h H enc base n _ _ _ h1 (fun m hm => hw' m (.inl hm)) (fun z hz => hp' z (.inl hz))
    obtain ⟨z, hz⟩ := hs H enc base n cs ys hl (by simpa using hyl) (fun j g hg => by
      have := hat (j + 1) g (by simpa using hg)
      simpa using this) (fun m hm => hw' m (.inr hm)) (fun q hq => hp' q (.inr hq))
    refine ⟨(x, z), (cs.drop o).take k, cs.drop (o + k), ?_, hx, hz⟩
    rw [← List.drop_drop, List.take_append_drop]
theorem opens_struct {P : Program} {W : World} {t : TypeId} {fs : Array Field} {N : Nat} {X : Type} {S : X → List Value → Prop} (ht : P.underlying t = some (.struct fs)) (hN : P.cellsOf t = N) (h : OpensF P W N fs.toList 0 S) : Opens P W t S := by
  intro H enc base fuel cs d p htr hw hp
  obtain ⟨xs, n, _, hx, hl, hxl, hat⟩ := DataW.trod_struct ht htr
  simp only [Prod.mk.injEq] at hx
  obtain ⟨rfl, rfl⟩ := hx
  have := h H enc base n cs xs (by omega) (by simpa using hxl) (fun j f hf => hat j f (by simpa using hf)) (fun m hm => hw m (by
    simp only [DataW.weights, ht]; exact hm)) hp
  simpa using this

/-! ### Lists -/
/-- A list of things of n cells each. -/
def Rows (W : World) (n : Nat) {X : Type} (R : X → List Value → Prop) (v : Value) (l : List X) : Prop :=
  ((∃ p cap, v = .slice p 0 cap) ∧ l = []) ∨
  ∃ b off cap, v = .slice (some ⟨b, off, none⟩) l.length cap ∧ 0 < l.length ∧ l.length ≤ cap ∧ cap ≤ maxLen ∧ b < W.heap.size ∧
    ∀ i x, l[i]? = some x → ∃ ecs, R x ecs ∧ ecs.length = n ∧ ∀ j, j < n → W.cell? ⟨b, off + i * n + j, none⟩ = ecs[j]?
def rowsR (W : World) (n : Nat) {X : Type} (R : X → List Value → Prop) (l : List X) (cs : List Value) : Prop := ∃ v, cs = [v] ∧ Rows W n R v l
theorem mem_weightsAll {H : Type} {P : Program} {e : TypeId} {d : DataW H} {m : Nat} : ∀ {l : List (DataW H)}, d ∈ l → m ∈ d.weights P e → m ∈ DataW.weightsAll P e l
  | a :: r, hd, hm => by
    simp only [DataW.weightsAll, List.mem_append]
    rcases List.mem_cons.1 hd with rfl | h
    · exact .inl hm
    · exact .inr (mem_weightsAll h hm)
theorem opens_list {P : Program} {W : World} {t e : TypeId} {n : Nat} {X : Type} [Inhabited X] {R : X → List Value → Prop} (ht : P.underlying t = some (.slice e)) (hc : P.cellsOf e = n) (hn : 0 < n) (h : Opens P W e R) : Opens P W t (rowsR W n R) := by
  intro H enc base fuel cs d p htr hw hp
  rcases Go.Deep.open_slice ht htr with ⟨rfl, _⟩ | ⟨a, len, cap, m, k, D, Pl, rfl, hb, hl, hm, hmm, hx, hi⟩
  · exact ⟨[], _, rfl, .inl ⟨⟨_, _, rfl⟩, rfl⟩⟩
  · simp only [Prod.mk.injEq] at hx
    obtain ⟨rfl, rfl⟩ := hx
    rw [hc] at hi hp
    have hlm : len ≤ m := by rw [hmm]; exact hl
    by_cases h0 : len = 0
    · subst h0; exact ⟨[], _, rfl, .inl ⟨⟨_, _, rfl⟩, rfl⟩⟩
    have hel : ∀ i, i < len → ∃ x, ∃ ecs, R x ecs ∧ ecs.length = n ∧ ∀ j, j < n → W.cell? (a.add (i * n + j)) = ecs[j]? := fun i hil => by
      obtain ⟨cs', hcs, htc⟩ := hi i (by omega)
      obtain ⟨_, hcl, hat⟩ := World.cells?_some hcs
      obtain ⟨x, hx⟩ := h H enc base k cs' _ _ htc (fun q hq => hw q (by
        simp only [DataW.weights, ht, List.mem_cons, List.mem_append]
        exact .inr (.inl (mem_weightsAll (List.mem_map.2 ⟨i, List.mem_range.2 hil, rfl⟩) hq)))) (fun z hz => hp z (List.mem_append_right _ (List.mem_flatMap.2 ⟨i, List.mem_range.2 (by omega), hz⟩)))
      refine ⟨x, cs', hx, hcl, fun j hj => ?_⟩
      have := hat j hj
      rw [Go.Deep.add_add] at this
      exact this
    obtain ⟨f, hf⟩ := Go.Deep.choose_lt hel
    obtain ⟨b, off, spot⟩ := a
    obtain ⟨ecs, _, hel0, hat0⟩ := hf 0 (by omega)
    have hc0 := hat0 0 hn
    rw [List.getElem?_eq_getElem (by omega)] at hc0
    have hspot : spot = none := by
      have := World.cell?_spot hc0
      simpa [Addr.add] using this
    subst hspot
    have hbl : b < W.heap.size := by
      have := World.block_lt_of_cell? W _ hc0
      simpa [Addr.add] using this
    refine ⟨(List.range len).map f, _, rfl, .inr ⟨b, off, cap, by simp, by simp; omega, by simpa using hl, hm, hbl, fun i x hix => ?_⟩⟩
    have hil : i < len := by
      have := (List.getElem?_eq_some_iff.1 hix).1
      simpa using this
    have hxi : x = f i := by
      rw [List.getElem?_map, List.getElem?_range hil] at hix
      exact (Option.some.inj hix).symm
    subst hxi
    obtain ⟨ecs, h1, h2, h3⟩ := hf i hil
    refine ⟨ecs, h1, h2, fun j hj => ?_⟩
    have := h3 j hj
    generalize hq : i * n + j = q at this
    by_cases hz : q = 0
    · rw [hz] at this
      have e1 : off + i * n + j = off := by omega
      rw [e1]
      simpa [Addr.add] using this
    · have e1 : off + i * n + j = off + q := by omega
      rw [e1]
      simpa [Addr.add, hz] using this
theorem Rows.below {W W' : World} {n : Nat} {X : Type} {R : X → List Value → Prop} {v : Value} {l : List X} (h : Rows W n R v l) (hB : Below W.heap.size W W') : Rows W' n R v l := by
  rcases h with h | ⟨b, off, cap, hv, h0, hl, hc, hb, hcell⟩
  · exact .inl h
  · refine .inr ⟨b, off, cap, hv, h0, hl, hc, Nat.lt_of_lt_of_le hb hB.size, fun i x hx => ?_⟩
    obtain ⟨ecs, h1, h2, h3⟩ := hcell i x hx
    exact ⟨ecs, h1, h2, fun j hj => by rw [hB.cell (p := ⟨b, off + i * n + j, none⟩) hb]; exact h3 j hj⟩
theorem Rows.shape {W : World} {n : Nat} {X : Type} {R : X → List Value → Prop} {v : Value} {l : List X} (h : Rows W n R v l) :
    ∃ p cap, v = .slice p l.length cap ∧ (0 < l.length → ∃ b off, p = some ⟨b, off, none⟩ ∧ b < W.heap.size ∧ l.length ≤ cap ∧ cap ≤ maxLen ∧ ∀ i x, l[i]? = some x → ∃ ecs, R x ecs ∧ ecs.length = n ∧ ∀ j, j < n → W.cell? ⟨b, off + i * n + j, none⟩ = ecs[j]?) := by
  rcases h with ⟨⟨p, cap, rfl⟩, rfl⟩ | ⟨b, off, cap, hv, h0, hl, hc, hb, hcell⟩
  · exact ⟨p, cap, rfl, fun h => by simp at h⟩
  · exact ⟨_, cap, hv, fun _ => ⟨b, off, rfl, hb, hl, hc, hcell⟩⟩
end Go.Proofs.YtdhaanaenklleaaGreatDoor
namespace Go.Proofs.YtdhaanaenklleaaGreatDoor
set_option linter.unusedVariables false
open Go.RowKit

abbrev Inp := ByteArray × (List UInt8 × Unit)
abbrev inpR : Inp → List Value → Prop := consR strR (consR (bytR 32) nilR)
def bytV (l : List UInt8) : List Value := l.map fun (b : UInt8) => Value.int .u8 (b.toNat : Int)
theorem inp_cells {a : Inp} {cs : List Value} (h : inpR a cs) : cs = .string a.1 :: bytV a.2.1 ∧ a.1.size ≤ 140737488351232 ∧ a.2.1.length = 32 := by
  obtain ⟨x, y, rfl, ⟨rfl, h1⟩, z, u, rfl, ⟨rfl, h2⟩, rfl⟩ := h
  exact ⟨by simp [bytV], h1, h2⟩
/-! ### By value -/
theorem mapM_some {α β : Type} (f : α → Option β) (g : α → β) : ∀ is : List α, (∀ i ∈ is, f i = some (g i)) → is.mapM f = some (is.map g)
  | [], _ => rfl
  | i :: is, h => by
    rw [List.mapM_cons, h i (List.mem_cons_self), mapM_some f g is fun j hj => h j (List.mem_cons_of_mem _ hj)]
    rfl
def litsB (l : List UInt8) : List Lit := l.map fun (b : UInt8) => Lit.int .u8 (b.toNat : Int)
theorem litsB_inj {a b : List UInt8} (h : litsB a = litsB b) : a = b := by
  induction a generalizing b with
  | nil => cases b with
    | nil => rfl
    | cons y s => simp [litsB] at h
  | cons x r ih => cases b with
    | nil => simp [litsB] at h
    | cons y s =>
      simp only [litsB, List.map_cons, List.cons.injEq, Lit.int.injEq, true_and] at h
      rw [ih h.2, show x = y from UInt8.toNat_inj.1 (by omega)]
theorem bytV_len (l : List UInt8) : (bytV l).length = l.length := by simp [bytV]
theorem lits_byt (P : Program) (T e : TypeId) (n d : Nat) (hT : P.underlying T = some (.array n e)) (he : P.underlying e = some (.int .u8)) (hce : P.cellsOf e = 1) (hcT : P.cellsOf T = n) (l : List UInt8) (hl : l.length = n) :
    P.keyLits (d + 2) T (bytV l) = some (litsB l) := by
  have hm : (List.range n).mapM (fun i => P.keyLits (d + 1) e (((bytV l).drop (i * P.cellsOf e)).take (P.cellsOf e))) = some ((List.range n).map fun i => [Lit.int .u8 ((l.getD i 0).toNat : Int)]) := by
    refine mapM_some _ _ _ fun i hi => ?_
    have hi' : i < n := by simpa using hi
    have hc : ((bytV l).drop (i * P.cellsOf e)).take (P.cellsOf e) = [.int .u8 ((l.getD i 0).toNat : Int)] := by
      rw [hce, Nat.mul_one]
      apply List.ext_getElem?
      intro j
      rw [List.getElem?_take]
      by_cases hj : j < 1
      · obtain rfl : j = 0 := by omega
        have : i < l.length := by omega
        rw [if_pos hj, List.getElem?_drop, Nat.add_zero]
        simp [bytV, List.getD, this]
      · rw [if_neg hj, List.getElem?_eq_none (by simp; omega)]
    rw [hc]
    have hw : (Lit.int .u8 ((l.getD i 0).toNat : Int)).wf = true := by
      have h1 := (l.getD i 0).toNat_lt
      have h2 : IntKind.u8.min ≤ ((l.getD i 0).toNat : Int) := by rw [show IntKind.u8.min = 0 from rfl]; omega
      have h3 : ((l.getD i 0).toNat : Int) ≤ IntKind.u8.max := by rw [show IntKind.u8.max = 255 from rfl]; omega
      show (decide (IntKind.u8.min ≤ ((l.getD i 0).toNat : Int)) && decide (((l.getD i 0).toNat : Int) ≤ IntKind.u8.max)) = true
      rw [decide_eq_true h2, decide_eq_true h3]; rfl
    generalize (l.getD i 0).toNat = x at *
    simp only [Program.keyLits, he]
    rw [if_pos ⟨trivial, hw⟩]
  unfold Program.keyLits
  rw [hT]
  simp only [bytV_len, hl, hcT, if_true]
  rw [hm]
  simp only [Option.map_some, Option.some.injEq]
  apply List.ext_getElem?
  intro j
  have e : ((List.range n).map fun i => [Lit.int .u8 ((l.getD i 0).toNat : Int)]).flatten = (List.range n).map fun i => Lit.int .u8 ((l.getD i 0).toNat : Int) := by
    rw [← List.flatMap_def, ← List.map_eq_flatMap]
  rw [e]
  by_cases hj : j < n
  · have hj2 : j < l.length := by omega
    simp [litsB, hj, hj2, List.getD_eq_getElem?_getD]
  · rw [List.getElem?_eq_none (by simp; omega), List.getElem?_eq_none (by simp [litsB]; omega)]
theorem eq_id {a b : List UInt8} (ha : a.length = 32) (hb : b.length = 32) (w : World) : (Op.equalIn 10000 32 (.agg (bytV a).toArray) (.agg (bytV b).toArray)).run Tryz.prog w = .ok (decide (a = b)) w := by
  have hc : Tryz.prog.cellsOf 32 = 32 := by kernel_rfl
  have hf : ∀ l : List UInt8, l.length = 32 → (Value.agg (bytV l).toArray).formed Tryz.prog 32 = true := fun l h => by simp [Value.formed, Tryz.underlying32, hc, bytV_len, h]
  have hk : ∀ l : List UInt8, l.length = 32 → Tryz.prog.keyLits 2 32 (bytV l) = some (litsB l) := fun l h => lits_byt Tryz.prog 32 5 32 0 Tryz.underlying32 Tryz.underlying5 (by kernel_rfl) (by kernel_rfl) l h
  obtain ⟨r, hr, hiff⟩ := run_equalIn_deep (P := Tryz.prog) 9998 2 32 (by kernel_rfl) w 2 2 _ _ _ _ (hf a ha) (hf b hb) (hk a ha) (hk b hb)
  have : r = decide (a = b) := by
    rw [Bool.eq_iff_iff, hiff, decide_eq_true_iff]
    exact ⟨litsB_inj, fun h => by rw [h]⟩
  rw [← this]
  exact hr
end Go.Proofs.YtdhaanaenklleaaGreatDoor
namespace Go.Proofs.YtdhaanaenklleaaGreatDoor
set_option linter.unusedVariables false
open Go.ChangeShapes Go.WideShapes Go.ChangeAt Go.RowKit

theorem wpQuiet_load_at {P : Program} {C : World → Prop} {ops : Array Oper} {rest : List Oper} {o : Oper} {a : Act} {Q : Act → Prop} (hw : Region.wanted o (yielded ops a.tmps) = true) (ty : TypeId) (x : Operand) (ho : o.op = .load ty x)
    (p : Addr) (hx : a.eval x = .pointer (some p)) (v : Value) (hr : ∀ w, C w → (loadVar ty p).run P w = .ok v w)
    (h : wpQuiet P ops C Q rest (a.put o.dst v)) : wpQuiet P ops C Q (o :: rest) a := by
  refine Go.BigFrame.wpQuiet_want hw fun K hK => ⟨v, fun w hw => ?_, hK _ h⟩
  unfold Oper.quietAt execOp
  simp only [ho, hx, Instr.loadAt, Instr.sureAddr, Sem.run_bind, Sem.run_pure, Result.andThen_ok, hr w hw]
  exact ⟨rfl, rfl⟩
end Go.Proofs.YtdhaanaenklleaaGreatDoor
namespace Go.Proofs.YtdhaanaenklleaaGreatDoor.D
set_option linter.unusedVariables false
set_option linter.unusedSimpArgs false

/-- A file in a list: its path, its bytes' name. -/
abbrev Inp := ByteArray × (List UInt8 × Unit)
/-- An order of paths. -/
structure Cm (cmp : ByteArray → ByteArray → Int) : Prop where
  neg : ∀ a b, cmp b a = - cmp a b
  zero : ∀ a b, cmp a b = 0 ↔ a = b
  lt : ∀ a b c, cmp a b < 0 → cmp b c < 0 → cmp a c < 0
section
variable {cmp : ByteArray → ByteArray → Int}
theorem Cm.asy (h : Cm cmp) {a b : ByteArray} (h1 : cmp a b < 0) : ¬ cmp b a < 0 := by
  have := h.neg a b
  omega
theorem Cm.tri (h : Cm cmp) (a b : ByteArray) : cmp a b < 0 ∨ a = b ∨ cmp b a < 0 := by
  have h1 := h.neg a b
  have h2 := h.zero a b
  by_cases e : a = b
  · exact .inr (.inl e)
  · have : cmp a b ≠ 0 := fun x => e (h2.1 x)
    omega
/-! ### What is there at a path -/
def look : List Inp → ByteArray → Option (List UInt8)
  | [], _ => none
  | f :: r, p => if f.1 = p then some f.2.1 else look r p
/-! ### Both gone through -/
/-! ### The document's -/
end
end Go.Proofs.YtdhaanaenklleaaGreatDoor.D
namespace Go.Proofs.YtdhaanaenklleaaGreatDoor
set_option linter.unusedVariables false
open Go.ChangeShapes Go.WideShapes Go.ChangeAt Go.RowKit

def MaxAt (w : World) : Prop := 1 < w.heap.size ∧ ∃ m : Int, w.cell? ⟨1, 0, none⟩ = some (.int .i64 m)
theorem MaxAt.below {w w' : World} (h : MaxAt w) (hB : Below w.heap.size w w') : MaxAt w' := by
  obtain ⟨h1, m, h2⟩ := h
  exact ⟨Nat.lt_of_lt_of_le h1 hB.size, m, (hB.cell (p := ⟨1, 0, none⟩) h1).trans h2⟩
/-- A list's head, in memory. -/
theorem Rows.head {w : World} {v : Value} {f : Inp} {a : List Inp} (h : Rows w 33 inpR v (f :: a)) :
    ∃ b off cap, v = .slice (some ⟨b, off, none⟩) (a.length + 1) cap ∧ b < w.heap.size ∧ a.length + 1 ≤ cap ∧ cap ≤ 9223372036854775807 ∧ w.cell? ⟨b, off, none⟩ = some (.string f.1) ∧ w.rangeAt b (off + 1) (bytV f.2.1) ∧ f.2.1.length = 32 ∧ f.1.size ≤ 140737488351232 := by
  obtain ⟨p, cap, rfl, hp⟩ := h.shape
  obtain ⟨b, off, rfl, hb, hcap, hmax, hcell⟩ := hp (by simp)
  obtain ⟨ecs, he, hl, hat⟩ := hcell 0 f rfl
  obtain ⟨rfl, h1, h2⟩ := inp_cells he
  unfold maxLen at hmax
  refine ⟨b, off, cap, rfl, hb, hcap, by omega, ?_, ?_, h2, h1⟩
  · have := hat 0 (by decide)
    simpa using this
  · intro j z hz
    have hj := (List.getElem?_eq_some_iff.1 hz).1
    rw [bytV_len, h2] at hj
    have := hat (j + 1) (by omega)
    rw [List.getElem?_cons_succ, hz] at this
    rw [← this]
    congr 2
    omega
theorem Rows.empty {w : World} {n : Nat} {X : Type} {R : X → List Value → Prop} {v : Value} (h : Rows w n R v []) : ∃ p cap, v = .slice p 0 cap := by
  obtain ⟨p, cap, rfl, -⟩ := h.shape
  exact ⟨p, cap, rfl⟩
end Go.Proofs.YtdhaanaenklleaaGreatDoor
namespace Go.Proofs.YtdhaanaenklleaaGreatDoor
set_option linter.unusedVariables false
set_option linter.unusedSimpArgs false
open Go.ChangeShapes Go.WideShapes Go.ChangeAt Go.RowKit

/-- An element's path, in memory. -/
theorem Rows.path {w w1 : World} {b off : Nat} {cap : Nat} {a : List Inp} {k : Nat} (hk : k < a.length) (hb : b < w.heap.size) (hcell : ∀ i x, a[i]? = some x → ∃ ecs, inpR x ecs ∧ ecs.length = 33 ∧ ∀ j, j < 33 → w.cell? ⟨b, off + i * 33 + j, none⟩ = ecs[j]?) (hB : Below w.heap.size w w1) :
    (loadVar 9 ⟨b, off + k * 33, none⟩).run Tryz.prog w1 = .ok (.string a[k].1) w1 := by
  obtain ⟨ecs, he, hl, hat⟩ := hcell k a[k] (List.getElem?_eq_getElem hk)
  obtain ⟨rfl, h1, h2⟩ := inp_cells he
  have h := (hB.cell (p := ⟨b, off + k * 33 + 0, none⟩) hb).trans (hat 0 (by decide))
  simp at h
  simp [go_sem, h]
end Go.Proofs.YtdhaanaenklleaaGreatDoor
namespace Go.Proofs.YtdhaanaenklleaaGreatDoor
set_option linter.unusedVariables false
set_option linter.unusedSimpArgs false
open Go.ChangeShapes Go.WideShapes Go.ChangeAt Go.RowKit

end Go.Proofs.YtdhaanaenklleaaGreatDoor
