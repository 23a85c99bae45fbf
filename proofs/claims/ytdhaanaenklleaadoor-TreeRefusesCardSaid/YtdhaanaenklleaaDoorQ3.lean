/- Opening of arguments of whatever plain type: a text, a number, a truth, a row of bytes, a struct of such, a list of such; piece by piece; Inputs and changes: their cells, their openings, and that they are held against each other by value; Walks: two lists of inputs, two lists of changes, held against each other; Plain: in what two rising lists part; by going through both, and by the document; Walks: which of two lists' heads is first; the theory of changes; Walks: whether a list rises; whether a list is odd; Walks: whether a list is odd. -/
import Derived.WalkKit
import Derived.ProofKit
import Derived.Below
import Derived.OneCell
import Derived.SizedLaws
import Derived.Lib.Hide
import Derived.SliceStrings
import Derived.Lib.Strings
import Derived.OpenShut
import Derived.Deep.Slices
import Derived.Test.YtdhaanaenklleaaDoorProg
import Derived.WalkSpells
import Derived.DeepKeys
import Derived.Test.YtdhaanaenklleaaDoorQ1
import Derived.WalkLawsBesides
import Derived.Deep.DeepFit
import Derived.RegionTactic
import Derived.ChangeAlike
import Derived.Deep.QuietTactic
import Derived.Deep.LoopGhost
import Derived.BigQuiet
import Derived.Laws.MakeOwn
import Derived.Laws.AppendOwn
import Derived.Deep.DeepMust
import Derived.Maps.AppendAt
import Derived.Deep.MidRow
import Derived.Test.YtdhaanaenklleaaDoorQ2
import Derived.Great.BuildSlice
import Derived.Laws.CopyOwn
namespace Go.Proofs.YtdhaanaenklleaaDoor
open Go.RowKit
set_option linter.unusedVariables false

def Opens (P : Program) (W : World) (t : TypeId) {X : Type} (R : X → List Value → Prop) : Prop :=
  ∀ (H : Type) (enc : TypeId × Value → H) (base fuel : Nat) (cs : List Value) (d : DataW H) (p : List MemPlace),
    DataW.trod enc P W base (fun _ => true) true fuel t cs = some (d, p) → (∀ n ∈ d.weights P t, n ≤ 140737488351232) → (∀ x ∈ p, x.block < W.heap.size) → ∃ x, R x cs
def strR (s : ByteArray) (cs : List Value) : Prop := cs = [.string s] ∧ s.size ≤ 140737488351232
def intR (k : IntKind) (n : Int) (cs : List Value) : Prop := cs = [.int k n] ∧ (Lit.int k n).wf = true
def boolR (b : Bool) (cs : List Value) : Prop := cs = [.bool b]
theorem opens_str {P : Program} {W : World} {t : TypeId} (ht : P.underlying t = some .string) : Opens P W t strR := by
  intro H enc base fuel cs d p h hw hp
  obtain ⟨s, rfl, hx, _⟩ := DataW.trod_string ht h
  cases hx
  exact ⟨s, rfl, by rw [Lib.size_eq]; exact hw _ (by simp [DataW.weights])⟩
theorem opens_int {P : Program} {W : World} {t : TypeId} {k : IntKind} (ht : P.underlying t = some (.int k)) : Opens P W t (intR k) := by
  intro H enc base fuel cs d p h hw hp
  obtain ⟨n, rfl, hx, hn⟩ := DataW.trod_int ht h
  exact ⟨n, rfl, hn⟩
theorem opens_bool {P : Program} {W : World} {t : TypeId} (ht : P.underlying t = some .bool) : Opens P W t boolR := by
  intro H enc base fuel cs d p h hw hp
  obtain ⟨b, rfl, hx⟩ := DataW.trod_bool ht h
  exact ⟨b, rfl⟩
/-- A row of n bytes. -/
def bytR (n : Nat) (l : List UInt8) (cs : List Value) : Prop := cs = l.map (fun (b : UInt8) => Value.int .u8 (b.toNat : Int)) ∧ l.length = n
theorem opens_byt {P : Program} {W : World} {t e : TypeId} {n : Nat} (ht : P.underlying t = some (.array n e)) (he : P.underlying e = some (.int .u8)) (hce : P.cellsOf e = 1) (hct : P.cellsOf t = n) : Opens P W t (bytR n) := by
  intro H enc base fuel cs d p h hw hp
  obtain ⟨xs, m, _, _, hl, hxl, hat⟩ := DataW.trod_array ht h
  rw [hct] at hl
  have hcell : ∀ i, i < n → ∃ b : UInt8, cs[i]? = some (.int .u8 (b.toNat : Int)) := fun i hi => by
    have h1 := hat i hi
    rw [hce, Nat.mul_one, List.getElem?_eq_getElem (by omega)] at h1
    obtain ⟨z, hz, _, hwf⟩ := DataW.trod_int he h1
    have hw2 : (decide (IntKind.u8.min ≤ z) && decide (z ≤ IntKind.u8.max)) = true := hwf
    rw [show IntKind.u8.min = 0 from rfl, show IntKind.u8.max = 255 from rfl, Bool.and_eq_true, decide_eq_true_iff, decide_eq_true_iff] at hw2
    have h2 := congrArg (·[0]?) hz
    simp only [List.getElem?_take_of_lt (show 0 < 1 by decide), List.getElem?_drop, Nat.add_zero, List.getElem?_cons_zero] at h2
    refine ⟨UInt8.ofNat z.toNat, ?_⟩
    rw [h2]
    have : (UInt8.ofNat z.toNat).toNat = z.toNat := by
      rw [UInt8.toNat_ofNat']; omega
    rw [this, Int.toNat_of_nonneg hw2.1]
  obtain ⟨f, hf⟩ := Go.Deep.choose_lt hcell
  refine ⟨(List.range n).map f, ?_, by simp⟩
  apply List.ext_getElem?
  intro i
  by_cases hi : i < n
  · rw [hf i hi]
    simp [hi]
  · rw [List.getElem?_eq_none (by omega), List.getElem?_eq_none (by simp; omega)]

/-! ### Structs -/
def nilR (_ : Unit) (cs : List Value) : Prop := cs = []
def consR {X Y : Type} (R : X → List Value → Prop) (S : Y → List Value → Prop) (x : X × Y) (cs : List Value) : Prop := ∃ a b, cs = a ++ b ∧ R x.1 a ∧ S x.2 b
def OpensF (P : Program) (W : World) (N : Nat) (fs : List Field) (o : Nat) {X : Type} (S : X → List Value → Prop) : Prop :=
  ∀ (H : Type) (enc : TypeId × Value → H) (base n : Nat) (cs : List Value) (ys : List (DataW H × List MemPlace)), cs.length = N → ys.length = fs.length →
    (∀ (j : Nat) (f : Field), fs[j]? = some f → DataW.trod enc P W base (fun _ => true) true n f.type ((cs.drop f.offset).take (P.cellsOf f.type)) = ys[j]?) →
    (∀ m ∈ DataW.weightsEach P (fs.map (·.type)) (ys.map (·.1)), m ≤ 140737488351232) → (∀ x ∈ ys.flatMap (·.2), x.block < W.heap.size) → ∃ x, S x (cs.drop o)
theorem opensF_nil {P : Program} {W : World} {N : Nat} : OpensF P W N [] N nilR := by
  intro H enc base n cs ys hl _ _ _ _
  exact ⟨(), List.drop_eq_nil_of_le (by omega)⟩
theorem opensF_cons {P : Program} {W : World} {N : Nat} {f : Field} {fs : List Field} {o k : Nat} {X Y : Type} {R : X → List Value → Prop} {S : Y → List Value → Prop}
    (ho : f.offset = o) (hk : P.cellsOf f.type = k) (h : Opens P W f.type R) (hs : OpensF P W N fs (o + k) S) : OpensF P W N (f :: fs) o (consR R S) := by
  intro H enc base n cs ys hl hyl hat hw hp
  match ys, hyl with
  | y :: ys, hyl =>
    have h0 := hat 0 f rfl
    rw [ho, hk] at h0
    have h1 : DataW.trod enc P W base (fun _ => true) true n f.type ((cs.drop o).take k) = some (y.1, y.2) := h0
    have hw' : ∀ m, m ∈ y.1.weights P f.type ∨ m ∈ DataW.weightsEach P (fs.map (·.type)) (ys.map (·.1)) → m ≤ 140737488351232 := fun m hm => hw m (by
      simp only [List.map_cons, DataW.weightsEach, List.mem_append]; exact hm)
    have hp' : ∀ x, x ∈ y.2 ∨ x ∈ ys.flatMap (·.2) → x.block < W.heap.size := fun x hx => hp x (by
      rw [List.flatMap_cons, List.mem_append]; exact hx)
    obtain ⟨x, hx⟩ := h H enc base n _ _ _ h1 (fun m hm => hw' m (.inl hm)) (fun z hz => hp' z (.inl hz))
    obtain ⟨z, hz⟩ := hs H enc base n cs ys hl (by simpa using hyl) (fun j g hg => by
      have := hat (j + 1) g (by simpa using hg)
      simpa using this) (fun m hm => hw' m (.inr hm)) (fun q hq => hp' q (.inr hq))
    refine ⟨(x, z), (cs.drop o).take k, cs.drop (o + k), ?_, hx, hz⟩
    rw [← List.drop_drop, List.take_append_drop]
theorem opens_struct {P : Program} {W : World} {t : TypeId} {fs : Array Field} {N : Nat} {X : Type} {S : X → List Value → Prop} (ht : P.underlying t = some (.struct fs)) (hN : P.cellsOf t = N) (h : OpensF P W N fs.toList 0 S) : Opens P W t S := by
  intro H enc base fuel cs d p htr hw hp
  obtain ⟨xs, n, _, hx, hl, hxl, hat⟩ := DataW.trod_struct ht htr
  simp only [Prod.mk.injEq] at hx
  obtain ⟨rfl, rfl⟩ := hx
  have := h H enc base n cs xs (by omega) (by simpa using hxl) (fun j f hf => hat j f (by simpa using hf)) (fun m hm => hw m (by
    simp only [DataW.weights, ht]; exact hm)) hp
  simpa using this

/-! ### Lists -/
/-- A list of things of n cells each. -/
def Rows (W : World) (n : Nat) {X : Type} (R : X → List Value → Prop) (v : Value) (l : List X) : Prop :=
  ((∃ p cap, v = .slice p 0 cap) ∧ l = []) ∨
  ∃ b off cap, v = .slice (some ⟨b, off, none⟩) l.length cap ∧ 0 < l.length ∧ l.length ≤ cap ∧ cap ≤ maxLen ∧ b < W.heap.size ∧
    ∀ i x, l[i]? = some x → ∃ ecs, R x ecs ∧ ecs.length = n ∧ ∀ j, j < n → W.cell? ⟨b, off + i * n + j, none⟩ = ecs[j]?
def rowsR (W : World) (n : Nat) {X : Type} (R : X → List Value → Prop) (l : List X) (cs : List Value) : Prop := ∃ v, cs = [v] ∧ Rows W n R v l
theorem mem_weightsAll {H : Type} {P : Program} {e : TypeId} {d : DataW H} {m : Nat} : ∀ {l : List (DataW H)}, d ∈ l → m ∈ d.weights P e → m ∈ DataW.weightsAll P e l
  | a :: r, hd, hm => by
    simp only [DataW.weightsAll, List.mem_append]
    rcases List.mem_cons.1 hd with rfl | h
    · exact .inl hm
    · exact .inr (mem_weightsAll h hm)
theorem opens_list {P : Program} {W : World} {t e : TypeId} {n : Nat} {X : Type} [Inhabited X] {R : X → List Value → Prop} (ht : P.underlying t = some (.slice e)) (hc : P.cellsOf e = n) (hn : 0 < n) (h : Opens P W e R) : Opens P W t (rowsR W n R) := by
  intro H enc base fuel cs d p htr hw hp
  rcases Go.Deep.open_slice ht htr with ⟨rfl, _⟩ | ⟨a, len, cap, m, k, D, Pl, rfl, hb, hl, hm, hmm, hx, hi⟩
  · exact ⟨[], _, rfl, .inl ⟨⟨_, _, rfl⟩, rfl⟩⟩
  · simp only [Prod.mk.injEq] at hx
    obtain ⟨rfl, rfl⟩ := hx
    rw [hc] at hi hp
    have hlm : len ≤ m := by rw [hmm]; exact hl
    by_cases h0 : len = 0
    · subst h0; exact ⟨[], _, rfl, .inl ⟨⟨_, _, rfl⟩, rfl⟩⟩
    have hel : ∀ i, i < len → ∃ x, ∃ ecs, R x ecs ∧ ecs.length = n ∧ ∀ j, j < n → W.cell? (a.add (i * n + j)) = ecs[j]? := fun i hil => by
      obtain ⟨cs', hcs, htc⟩ := hi i (by omega)
      obtain ⟨_, hcl, hat⟩ := World.cells?_some hcs
      obtain ⟨x, hx⟩ := h H enc base k cs' _ _ htc (fun q hq => hw q (by
        simp only [DataW.weights, ht, List.mem_cons, List.mem_append]
        exact .inr (.inl (mem_weightsAll (List.mem_map.2 ⟨i, List.mem_range.2 hil, rfl⟩) hq)))) (fun z hz => hp z (List.mem_append_right _ (List.mem_flatMap.2 ⟨i, List.mem_range.2 (by omega), hz⟩)))
      refine ⟨x, cs', hx, hcl, fun j hj => ?_⟩
      have := hat j hj
      rw [Go.Deep.add_add] at this
      exact this
    obtain ⟨f, hf⟩ := Go.Deep.choose_lt hel
    obtain ⟨b, off, spot⟩ := a
    obtain ⟨ecs, _, hel0, hat0⟩ := hf 0 (by omega)
    have hc0 := hat0 0 hn
    rw [List.getElem?_eq_getElem (by omega)] at hc0
    have hspot : spot = none := by
      have := World.cell?_spot hc0
      simpa [Addr.add] using this
    subst hspot
    have hbl : b < W.heap.size := by
      have := World.block_lt_of_cell? W _ hc0
      simpa [Addr.add] using this
    refine ⟨(List.range len).map f, _, rfl, .inr ⟨b, off, cap, by simp, by simp; omega, by simpa using hl, hm, hbl, fun i x hix => ?_⟩⟩
    have hil : i < len := by
      have := (List.getElem?_eq_some_iff.1 hix).1
      simpa using this
    have hxi : x = f i := by
      rw [List.getElem?_map, List.getElem?_range hil] at hix
      exact (Option.some.inj hix).symm
    subst hxi
    obtain ⟨ecs, h1, h2, h3⟩ := hf i hil
    refine ⟨ecs, h1, h2, fun j hj => ?_⟩
    have := h3 j hj
    generalize hq : i * n + j = q at this
    by_cases hz : q = 0
    · rw [hz] at this
      have e1 : off + i * n + j = off := by omega
      rw [e1]
      simpa [Addr.add] using this
    · have e1 : off + i * n + j = off + q := by omega
      rw [e1]
      simpa [Addr.add, hz] using this
theorem Rows.below {W W' : World} {n : Nat} {X : Type} {R : X → List Value → Prop} {v : Value} {l : List X} (h : Rows W n R v l) (hB : Below W.heap.size W W') : Rows W' n R v l := by
  rcases h with h | ⟨b, off, cap, hv, h0, hl, hc, hb, hcell⟩
  · exact .inl h
  · refine .inr ⟨b, off, cap, hv, h0, hl, hc, Nat.lt_of_lt_of_le hb hB.size, fun i x hx => ?_⟩
    obtain ⟨ecs, h1, h2, h3⟩ := hcell i x hx
    exact ⟨ecs, h1, h2, fun j hj => by rw [hB.cell (p := ⟨b, off + i * n + j, none⟩) hb]; exact h3 j hj⟩
theorem Rows.shape {W : World} {n : Nat} {X : Type} {R : X → List Value → Prop} {v : Value} {l : List X} (h : Rows W n R v l) :
    ∃ p cap, v = .slice p l.length cap ∧ (0 < l.length → ∃ b off, p = some ⟨b, off, none⟩ ∧ b < W.heap.size ∧ l.length ≤ cap ∧ cap ≤ maxLen ∧ ∀ i x, l[i]? = some x → ∃ ecs, R x ecs ∧ ecs.length = n ∧ ∀ j, j < n → W.cell? ⟨b, off + i * n + j, none⟩ = ecs[j]?) := by
  rcases h with ⟨⟨p, cap, rfl⟩, rfl⟩ | ⟨b, off, cap, hv, h0, hl, hc, hb, hcell⟩
  · exact ⟨p, cap, rfl, fun h => by simp at h⟩
  · exact ⟨_, cap, hv, fun _ => ⟨b, off, rfl, hb, hl, hc, hcell⟩⟩
end Go.Proofs.YtdhaanaenklleaaDoor
namespace Go.Proofs.YtdhaanaenklleaaDoor
set_option linter.unusedVariables false
open Go.RowKit

abbrev Inp := ByteArray × (List UInt8 × Unit)
abbrev Chg := ByteArray × (Int × Unit)
abbrev inpR : Inp → List Value → Prop := consR strR (consR (bytR 32) nilR)
abbrev chgR : Chg → List Value → Prop := consR strR (consR (intR .i64) nilR)
def bytV (l : List UInt8) : List Value := l.map fun (b : UInt8) => Value.int .u8 (b.toNat : Int)
theorem inp_cells {a : Inp} {cs : List Value} (h : inpR a cs) : cs = .string a.1 :: bytV a.2.1 ∧ a.1.size ≤ 140737488351232 ∧ a.2.1.length = 32 := by
  obtain ⟨x, y, rfl, ⟨rfl, h1⟩, z, u, rfl, ⟨rfl, h2⟩, rfl⟩ := h
  exact ⟨by simp [bytV], h1, h2⟩
theorem chg_cells {a : Chg} {cs : List Value} (h : chgR a cs) : cs = [.string a.1, .int .i64 a.2.1] ∧ a.1.size ≤ 140737488351232 ∧ (Lit.int .i64 a.2.1).wf = true := by
  obtain ⟨x, y, rfl, ⟨rfl, h1⟩, z, u, rfl, ⟨rfl, h2⟩, rfl⟩ := h
  exact ⟨rfl, h1, h2⟩
theorem opens_inp (W : World) : Opens Tryd.prog W 113 inpR :=
  opens_struct Tryd.underlying113 (by kernel_rfl) (opensF_cons (k := 1) rfl (by kernel_rfl) (opens_str Tryd.underlying9) (opensF_cons (k := 32) rfl (by kernel_rfl) (opens_byt Tryd.underlying37 Tryd.underlying5 (by kernel_rfl) (by kernel_rfl)) opensF_nil))
theorem opens_inps (W : World) : Opens Tryd.prog W 70 (rowsR W 33 inpR) := opens_list Tryd.underlying70 (by kernel_rfl) (by decide) (opens_inp W)

/-! ### By value -/
theorem mapM_some {α β : Type} (f : α → Option β) (g : α → β) : ∀ is : List α, (∀ i ∈ is, f i = some (g i)) → is.mapM f = some (is.map g)
  | [], _ => rfl
  | i :: is, h => by
    rw [List.mapM_cons, h i (List.mem_cons_self), mapM_some f g is fun j hj => h j (List.mem_cons_of_mem _ hj)]
    rfl
def litsB (l : List UInt8) : List Lit := l.map fun (b : UInt8) => Lit.int .u8 (b.toNat : Int)
theorem litsB_inj {a b : List UInt8} (h : litsB a = litsB b) : a = b := by
  induction a generalizing b with
  | nil => cases b with
    | nil => rfl
    | cons y s => simp [litsB] at h
  | cons x r ih => cases b with
    | nil => simp [litsB] at h
    | cons y s =>
      simp only [litsB, List.map_cons, List.cons.injEq, Lit.int.injEq, true_and] at h
      rw [ih h.2, show x = y from UInt8.toNat_inj.1 (by omega)]
theorem bytV_len (l : List UInt8) : (bytV l).length = l.length := by simp [bytV]
theorem lits_byt (P : Program) (T e : TypeId) (n d : Nat) (hT : P.underlying T = some (.array n e)) (he : P.underlying e = some (.int .u8)) (hce : P.cellsOf e = 1) (hcT : P.cellsOf T = n) (l : List UInt8) (hl : l.length = n) :
    P.keyLits (d + 2) T (bytV l) = some (litsB l) := by
  have hm : (List.range n).mapM (fun i => P.keyLits (d + 1) e (((bytV l).drop (i * P.cellsOf e)).take (P.cellsOf e))) = some ((List.range n).map fun i => [Lit.int .u8 ((l.getD i 0).toNat : Int)]) := by
    refine mapM_some _ _ _ fun i hi => ?_
    have hi' : i < n := by simpa using hi
    have hc : ((bytV l).drop (i * P.cellsOf e)).take (P.cellsOf e) = [.int .u8 ((l.getD i 0).toNat : Int)] := by
      rw [hce, Nat.mul_one]
      apply List.ext_getElem?
      intro j
      rw [List.getElem?_take]
      by_cases hj : j < 1
      · obtain rfl : j = 0 := by omega
        have : i < l.length := by omega
        rw [if_pos hj, List.getElem?_drop, Nat.add_zero]
        simp [bytV, List.getD, this]
      · rw [if_neg hj, List.getElem?_eq_none (by simp; omega)]
    rw [hc]
    have hw : (Lit.int .u8 ((l.getD i 0).toNat : Int)).wf = true := by
      have h1 := (l.getD i 0).toNat_lt
      have h2 : IntKind.u8.min ≤ ((l.getD i 0).toNat : Int) := by rw [show IntKind.u8.min = 0 from rfl]; omega
      have h3 : ((l.getD i 0).toNat : Int) ≤ IntKind.u8.max := by rw [show IntKind.u8.max = 255 from rfl]; omega
      show (decide (IntKind.u8.min ≤ ((l.getD i 0).toNat : Int)) && decide (((l.getD i 0).toNat : Int) ≤ IntKind.u8.max)) = true
      rw [decide_eq_true h2, decide_eq_true h3]; rfl
    generalize (l.getD i 0).toNat = x at *
    simp only [Program.keyLits, he]
    rw [if_pos ⟨trivial, hw⟩]
  unfold Program.keyLits
  rw [hT]
  simp only [bytV_len, hl, hcT, if_true]
  rw [hm]
  simp only [Option.map_some, Option.some.injEq]
  apply List.ext_getElem?
  intro j
  have e : ((List.range n).map fun i => [Lit.int .u8 ((l.getD i 0).toNat : Int)]).flatten = (List.range n).map fun i => Lit.int .u8 ((l.getD i 0).toNat : Int) := by
    rw [← List.flatMap_def, ← List.map_eq_flatMap]
  rw [e]
  by_cases hj : j < n
  · have hj2 : j < l.length := by omega
    simp [litsB, hj, hj2, List.getD_eq_getElem?_getD]
  · rw [List.getElem?_eq_none (by simp; omega), List.getElem?_eq_none (by simp [litsB]; omega)]
theorem lits_inp {a : Inp} {cs : List Value} (h : inpR a cs) : Tryd.prog.keyLits 3 113 cs = some (Lit.string a.1.data.toList :: litsB a.2.1) := by
  obtain ⟨rfl, h1, h2⟩ := inp_cells h
  have hb := lits_byt Tryd.prog 37 5 32 0 Tryd.underlying37 Tryd.underlying5 (by kernel_rfl) (by kernel_rfl) a.2.1 h2
  have hs : Tryd.prog.keyLits 2 9 [.string a.1] = some [.string a.1.data.toList] := by
    simp only [Program.keyLits, Tryd.underlying9]
    rw [if_pos (by unfold maxLen; omega)]
  have hc : Tryd.prog.cellsOf 113 = 33 := by kernel_rfl
  have hc9 : Tryd.prog.cellsOf 9 = 1 := by kernel_rfl
  have hc37 : Tryd.prog.cellsOf 37 = 32 := by kernel_rfl
  unfold Program.keyLits
  rw [Tryd.underlying113]
  simp only [List.length_cons, bytV_len, h2, hc]
  rw [if_pos ⟨trivial, by kernel_rfl⟩]
  simp only [List.mapM_cons, List.mapM_nil, hc9, hc37, List.drop_zero, List.take_succ_cons, List.take_zero, hs, List.drop_succ_cons]
  rw [List.take_of_length_le (by rw [bytV_len, h2]; exact Nat.le_refl _), hb]
  simp
theorem lits_chg {a : Chg} {cs : List Value} (h : chgR a cs) : Tryd.prog.keyLits 2 77 cs = some [Lit.string a.1.data.toList, Lit.int .i64 a.2.1] := by
  obtain ⟨rfl, h1, h2⟩ := chg_cells h
  have hs : Tryd.prog.keyLits 1 9 [.string a.1] = some [.string a.1.data.toList] := by
    simp only [Program.keyLits, Tryd.underlying9]
    rw [if_pos (by unfold maxLen; omega)]
  have hi : Tryd.prog.keyLits 1 3 [.int .i64 a.2.1] = some [.int .i64 a.2.1] := by
    simp only [Program.keyLits, Tryd.underlying3]
    rw [if_pos ⟨trivial, h2⟩]
  have hc : Tryd.prog.cellsOf 77 = 2 := by kernel_rfl
  have hc9 : Tryd.prog.cellsOf 9 = 1 := by kernel_rfl
  have hc3 : Tryd.prog.cellsOf 3 = 1 := by kernel_rfl
  unfold Program.keyLits
  rw [Tryd.underlying77]
  simp only [List.length_cons, List.length_nil, hc]
  rw [if_pos ⟨trivial, by kernel_rfl⟩]
  simp only [List.mapM_cons, List.mapM_nil, hc9, hc3, List.drop_zero, List.take_succ_cons, List.take_zero, hs, List.drop_succ_cons, hi]
  rfl
theorem ba_of {a b : ByteArray} (h : a.data.toList = b.data.toList) : a = b := by
  cases a; cases b
  simp only [ByteArray.mk.injEq]
  exact Array.toList_inj.1 h
theorem eq_inp {a b : Inp} {x y : Array Value} (ha : inpR a x.toList) (hb : inpR b y.toList) (w : World) : (Op.equalIn 10000 113 (.agg x) (.agg y)).run Tryd.prog w = .ok (decide (a = b)) w := by
  have hf : ∀ {a : Inp} {x : Array Value}, inpR a x.toList → (Value.agg x).formed Tryd.prog 113 = true := fun {a x} h => by
    have hl := congrArg List.length (inp_cells h).1
    have h2 := (inp_cells h).2.2
    rw [List.length_cons, bytV_len, h2, Array.length_toList] at hl
    have hc : Tryd.prog.cellsOf 113 = 33 := by kernel_rfl
    simp [Value.formed, Tryd.underlying113, hl, hc]
  obtain ⟨r, hr, hiff⟩ := run_equalIn_deep (P := Tryd.prog) 9997 3 113 (by kernel_rfl) w 3 3 _ _ _ _ (hf ha) (hf hb) (lits_inp ha) (lits_inp hb)
  have : r = decide (a = b) := by
    rw [Bool.eq_iff_iff, hiff, decide_eq_true_iff]
    obtain ⟨a1, a2, ⟨⟩⟩ := a
    obtain ⟨b1, b2, ⟨⟩⟩ := b
    constructor
    · intro h
      simp only [List.cons.injEq, Lit.string.injEq] at h
      rw [ba_of h.1, litsB_inj h.2]
    · intro h; rw [h]
  rw [← this]
  exact hr
theorem eq_chg {a b : Chg} {x y : Array Value} (ha : chgR a x.toList) (hb : chgR b y.toList) (w : World) : (Op.equalIn 10000 77 (.agg x) (.agg y)).run Tryd.prog w = .ok (decide (a = b)) w := by
  have hf : ∀ {a : Chg} {x : Array Value}, chgR a x.toList → (Value.agg x).formed Tryd.prog 77 = true := fun {a x} h => by
    have hl := congrArg List.length (chg_cells h).1
    rw [Array.length_toList] at hl
    have hc : Tryd.prog.cellsOf 77 = 2 := by kernel_rfl
    simp at hl
    simp [Value.formed, Tryd.underlying77, hl, hc]
  obtain ⟨r, hr, hiff⟩ := run_equalIn_deep (P := Tryd.prog) 9998 2 77 (by kernel_rfl) w 2 2 _ _ _ _ (hf ha) (hf hb) (lits_chg ha) (lits_chg hb)
  have : r = decide (a = b) := by
    rw [Bool.eq_iff_iff, hiff, decide_eq_true_iff]
    obtain ⟨a1, a2, ⟨⟩⟩ := a
    obtain ⟨b1, b2, ⟨⟩⟩ := b
    constructor
    · intro h
      simp only [List.cons.injEq, Lit.string.injEq, Lit.int.injEq, true_and, and_true] at h
      rw [ba_of h.1, h.2]
    · intro h
      cases h; rfl
  rw [← this]
  exact hr
theorem eq_id {a b : List UInt8} (ha : a.length = 32) (hb : b.length = 32) (w : World) : (Op.equalIn 10000 37 (.agg (bytV a).toArray) (.agg (bytV b).toArray)).run Tryd.prog w = .ok (decide (a = b)) w := by
  have hc : Tryd.prog.cellsOf 37 = 32 := by kernel_rfl
  have hf : ∀ l : List UInt8, l.length = 32 → (Value.agg (bytV l).toArray).formed Tryd.prog 37 = true := fun l h => by simp [Value.formed, Tryd.underlying37, hc, bytV_len, h]
  have hk : ∀ l : List UInt8, l.length = 32 → Tryd.prog.keyLits 2 37 (bytV l) = some (litsB l) := fun l h => lits_byt Tryd.prog 37 5 32 0 Tryd.underlying37 Tryd.underlying5 (by kernel_rfl) (by kernel_rfl) l h
  obtain ⟨r, hr, hiff⟩ := run_equalIn_deep (P := Tryd.prog) 9998 2 37 (by kernel_rfl) w 2 2 _ _ _ _ (hf a ha) (hf b hb) (hk a ha) (hk b hb)
  have : r = decide (a = b) := by
    rw [Bool.eq_iff_iff, hiff, decide_eq_true_iff]
    exact ⟨litsB_inj, fun h => by rw [h]⟩
  rw [← this]
  exact hr
end Go.Proofs.YtdhaanaenklleaaDoor
namespace Go.Proofs.YtdhaanaenklleaaDoor
set_option linter.unusedVariables false
open Go.ChangeShapes Go.WideShapes Go.ChangeAt Go.RowKit

theorem wpQuiet_load_at {P : Program} {C : World → Prop} {ops : Array Oper} {rest : List Oper} {o : Oper} {a : Act} {Q : Act → Prop} (hw : Region.wanted o (yielded ops a.tmps) = true) (ty : TypeId) (x : Operand) (ho : o.op = .load ty x)
    (p : Addr) (hx : a.eval x = .pointer (some p)) (v : Value) (hr : ∀ w, C w → (loadVar ty p).run P w = .ok v w)
    (h : wpQuiet P ops C Q rest (a.put o.dst v)) : wpQuiet P ops C Q (o :: rest) a := by
  refine Go.BigFrame.wpQuiet_want hw fun K hK => ⟨v, fun w hw => ?_, hK _ h⟩
  unfold Oper.quietAt execOp
  simp only [ho, hx, Instr.loadAt, Instr.sureAddr, Sem.run_bind, Sem.run_pure, Result.andThen_ok, hr w hw]
  exact ⟨rfl, rfl⟩
theorem same_take {α : Type} {a b : List α} {k : Nat} (ha : k < a.length) (hb : k < b.length) (h : a.take k = b.take k) (e : a[k] = b[k]) : a.take (k + 1) = b.take (k + 1) := by
  rw [List.take_succ_eq_append_getElem ha, List.take_succ_eq_append_getElem hb, h, e]


set_option maxRecDepth 100000 in
set_option maxHeartbeats 1000000 in
theorem same8_any (v u : Value) (a b : List Inp) (w : World) (hv : Rows w 33 inpR v a) (hu : Rows w 33 inpR u b) :
    Calls Tryd.prog 45 #[v, u] w fun e w' => e = .returned (.bool (decide (a = b))) ∧ Below w.heap.size w w' := by
  obtain ⟨p, cap, rfl, hp⟩ := hv.shape
  obtain ⟨q, cap2, rfl, hq⟩ := hu.shape
  have Hp := Lib.hid hp
  have Hq := Lib.hid hq
  by_cases hlen : a.length = b.length
  · obtain ⟨len, hl⟩ : ∃ len, len = a.length := ⟨_, rfl⟩
    rw [← hlen] at Hq
    rw [← hlen]
    rw [← hl] at Hp Hq ⊢
    have Ha := Lib.hid hl
    have Hb := Lib.hid (hl.trans hlen)
    clear hv hu hp hq hl hlen
    go_enter Tryd.func45, Tryd.ntmps45
    go_wp2_with fail
    go_loopg [5, 13] len (fun g _ iv wr => ∃ k : Nat, k + g = len ∧ iv = .int .i64 k ∧ a.take k = b.take k ∧ Below w.heap.size w wr)
    case atStart => exact ⟨0, by omega, rfl, rfl, Below.refl _ _⟩
    case round =>
      obtain ⟨k, hkg, rfl, hno, hB⟩ := hrel
      have Hno := Lib.hid hno
      clear hno
      by_cases hlt : k < len
      · have hltI : (k : Int) < (len : Int) := by omega
        have hka : k < a.length := by have := Ha.out; omega
        have hkb : k < b.length := by have := Hb.out; omega
        obtain ⟨g1, o1, rfl, hg1, hcap1, hmax1, hcell1⟩ := Hp.out (by omega)
        obtain ⟨g2, o2, rfl, hg2, hcap2, hmax2, hcell2⟩ := Hq.out (by omega)
        obtain ⟨x, hx, hxl, hat1⟩ := hcell1 k a[k] (List.getElem?_eq_getElem hka)
        obtain ⟨y, hy, hyl, hat2⟩ := hcell2 k b[k] (List.getElem?_eq_getElem hkb)
        have hi0 : (Tryd.prog.info? 113).map (·.size) = some 33 := by kernel_rfl
        have H1 := Lib.hid (fun w1 (h1 : Below wr.heap.size wr w1) => run_loadVar_mid (P := Tryd.prog) w1 g1 (o1 + k * 33) 113 x _ (fun j z hz => by
          have hj := (List.getElem?_eq_some_iff.1 hz).1
          rw [← hz, ← hat1 j (by omega)]
          have hBB := hB.trans (h1.mono hB.size)
          exact hBB.cell (p := ⟨g1, o1 + k * 33 + j, none⟩) hg1) Tryd.underlying113 rfl (by rw [hi0, hxl]))
        have H2 := Lib.hid (fun w1 (h1 : Below wr.heap.size wr w1) => run_loadVar_mid (P := Tryd.prog) w1 g2 (o2 + k * 33) 113 y _ (fun j z hz => by
          have hj := (List.getElem?_eq_some_iff.1 hz).1
          rw [← hz, ← hat2 j (by omega)]
          have hBB := hB.trans (h1.mono hB.size)
          exact hBB.cell (p := ⟨g2, o2 + k * 33 + j, none⟩) hg2) Tryd.underlying113 rfl (by rw [hi0, hyl]))
        have heq := fun w1 => eq_inp (x := x.toArray) (y := y.toArray) (by simpa using hx) (by simpa using hy) w1
        obtain ⟨r, hr⟩ : ∃ r, r = decide (a[k] = b[k]) := ⟨_, rfl⟩
        rw [← hr] at heq
        have Hr := Lib.hid hr
        have hB0 := Lib.hid hB
        unfold maxLen at hmax1 hmax2
        clear hr hx hy hxl hyl hat1 hat2 hcell1 hcell2 hi0 hB
        go_wp2_with fail
        cases r with
        | false =>
          have hne : a ≠ b := fun e => by
            subst e
            have := Hr.out
            simp at this
          have Hne := Lib.hid hne
          clear hne
          refine wp_region_class (Below wr.heap.size wr) (by kernel_rfl) (by kernel_rfl) (Below.refl _ _).drew ?_
          repeat (go_big_quiet_step (first | (intro _; rfl)))
          refine wpQuiet_load_at rfl 113 (.tmp 18) rfl ⟨g1, o1 + k * 33, none⟩ rfl (.agg x.toArray) H1.out ?_
          simp only [Act.put, List.setIfInBounds_toArray, List.set_cons_succ, List.set_cons_zero]
          repeat (go_big_quiet_step (first | (intro _; rfl)))
          refine wpQuiet_load_at rfl 113 (.tmp 22) rfl ⟨g2, o2 + k * 33, none⟩ rfl (.agg y.toArray) H2.out ?_
          simp only [Act.put, List.setIfInBounds_toArray, List.set_cons_succ, List.set_cons_zero]
          repeat (go_big_quiet_step (first | (intro _; rfl)))
          refine wpQuiet_nil ?_
          intro wq hBq
          have hB2 := hB0.out.trans (hBq.mono hB0.out.size)
          clear hBq heq
          go_wp2_with fail
          go_ret
          exact ⟨by rw [decide_eq_false Hne.out]; rfl, hB2⟩
        | true =>
          have Hn := Lib.hid (same_take hka hkb Hno.out (of_decide_eq_true Hr.out.symm))
          refine wp_region_class (Below wr.heap.size wr) (by kernel_rfl) (by kernel_rfl) (Below.refl _ _).drew ?_
          repeat (go_big_quiet_step (first | (intro _; rfl)))
          refine wpQuiet_load_at rfl 113 (.tmp 18) rfl ⟨g1, o1 + k * 33, none⟩ rfl (.agg x.toArray) H1.out ?_
          simp only [Act.put, List.setIfInBounds_toArray, List.set_cons_succ, List.set_cons_zero]
          repeat (go_big_quiet_step (first | (intro _; rfl)))
          refine wpQuiet_load_at rfl 113 (.tmp 22) rfl ⟨g2, o2 + k * 33, none⟩ rfl (.agg y.toArray) H2.out ?_
          simp only [Act.put, List.setIfInBounds_toArray, List.set_cons_succ, List.set_cons_zero]
          repeat (go_big_quiet_step (first | (intro _; rfl)))
          refine wpQuiet_nil ?_
          intro wq hBq
          have hB2 := hB0.out.trans (hBq.mono hB0.out.size)
          clear hBq heq
          go_wp2_with fail
          go_roundg (gk - 1)
          case measure => omega
          case rel => exact ⟨k + 1, by omega, by go_num, Hn.out, hB2⟩
      · have hnI : ¬ (k : Int) < (len : Int) := by omega
        have Hall : Hid (a = b) := Lib.hid (by
          have h := Hno.out
          rwa [List.take_of_length_le (by have := Ha.out; omega), List.take_of_length_le (by have := Hb.out; omega)] at h)
        go_wp2_with fail
        go_ret
        exact ⟨by rw [decide_eq_true Hall.out]; rfl, hB⟩
  · have hlI : ((a.length : Int) == (b.length : Int)) = false := beq_eq_false_iff_ne.2 (by omega)
    have Hne : Hid (a ≠ b) := Lib.hid (fun e => hlen (by rw [e]))
    clear hv hu hp hq
    go_enter Tryd.func45, Tryd.ntmps45
    go_wp2_with fail
    go_ret
    exact ⟨by rw [decide_eq_false Hne.out]; rfl, Below.refl _ _⟩


set_option maxRecDepth 100000 in
set_option maxHeartbeats 1000000 in
theorem same9_any (v u : Value) (a b : List Chg) (w : World) (hv : Rows w 2 chgR v a) (hu : Rows w 2 chgR u b) :
    Calls Tryd.prog 42 #[v, u] w fun e w' => e = .returned (.bool (decide (a = b))) ∧ Below w.heap.size w w' := by
  obtain ⟨p, cap, rfl, hp⟩ := hv.shape
  obtain ⟨q, cap2, rfl, hq⟩ := hu.shape
  have Hp := Lib.hid hp
  have Hq := Lib.hid hq
  by_cases hlen : a.length = b.length
  · obtain ⟨len, hl⟩ : ∃ len, len = a.length := ⟨_, rfl⟩
    rw [← hlen] at Hq
    rw [← hlen]
    rw [← hl] at Hp Hq ⊢
    have Ha := Lib.hid hl
    have Hb := Lib.hid (hl.trans hlen)
    clear hv hu hp hq hl hlen
    go_enter Tryd.func42, Tryd.ntmps42
    go_wp2_with fail
    go_loopg [5, 13] len (fun g _ iv wr => ∃ k : Nat, k + g = len ∧ iv = .int .i64 k ∧ a.take k = b.take k ∧ Below w.heap.size w wr)
    case atStart => exact ⟨0, by omega, rfl, rfl, Below.refl _ _⟩
    case round =>
      obtain ⟨k, hkg, rfl, hno, hB⟩ := hrel
      have Hno := Lib.hid hno
      clear hno
      by_cases hlt : k < len
      · have hltI : (k : Int) < (len : Int) := by omega
        have hka : k < a.length := by have := Ha.out; omega
        have hkb : k < b.length := by have := Hb.out; omega
        obtain ⟨g1, o1, rfl, hg1, hcap1, hmax1, hcell1⟩ := Hp.out (by omega)
        obtain ⟨g2, o2, rfl, hg2, hcap2, hmax2, hcell2⟩ := Hq.out (by omega)
        obtain ⟨x, hx, hxl, hat1⟩ := hcell1 k a[k] (List.getElem?_eq_getElem hka)
        obtain ⟨y, hy, hyl, hat2⟩ := hcell2 k b[k] (List.getElem?_eq_getElem hkb)
        have hi0 : (Tryd.prog.info? 77).map (·.size) = some 2 := by kernel_rfl
        have H1 := Lib.hid (fun w1 (h1 : Below wr.heap.size wr w1) => run_loadVar_mid (P := Tryd.prog) w1 g1 (o1 + k * 2) 77 x _ (fun j z hz => by
          have hj := (List.getElem?_eq_some_iff.1 hz).1
          rw [← hz, ← hat1 j (by omega)]
          have hBB := hB.trans (h1.mono hB.size)
          exact hBB.cell (p := ⟨g1, o1 + k * 2 + j, none⟩) hg1) Tryd.underlying77 rfl (by rw [hi0, hxl]))
        have H2 := Lib.hid (fun w1 (h1 : Below wr.heap.size wr w1) => run_loadVar_mid (P := Tryd.prog) w1 g2 (o2 + k * 2) 77 y _ (fun j z hz => by
          have hj := (List.getElem?_eq_some_iff.1 hz).1
          rw [← hz, ← hat2 j (by omega)]
          have hBB := hB.trans (h1.mono hB.size)
          exact hBB.cell (p := ⟨g2, o2 + k * 2 + j, none⟩) hg2) Tryd.underlying77 rfl (by rw [hi0, hyl]))
        have heq := fun w1 => eq_chg (x := x.toArray) (y := y.toArray) (by simpa using hx) (by simpa using hy) w1
        obtain ⟨r, hr⟩ : ∃ r, r = decide (a[k] = b[k]) := ⟨_, rfl⟩
        rw [← hr] at heq
        have Hr := Lib.hid hr
        have hB0 := Lib.hid hB
        unfold maxLen at hmax1 hmax2
        clear hr hx hy hxl hyl hat1 hat2 hcell1 hcell2 hi0 hB
        go_wp2_with fail
        cases r with
        | false =>
          have hne : a ≠ b := fun e => by
            subst e
            have := Hr.out
            simp at this
          have Hne := Lib.hid hne
          clear hne
          refine wp_region_class (Below wr.heap.size wr) (by kernel_rfl) (by kernel_rfl) (Below.refl _ _).drew ?_
          repeat (go_big_quiet_step (first | (intro _; rfl)))
          refine wpQuiet_load_at rfl 77 (.tmp 18) rfl ⟨g1, o1 + k * 2, none⟩ rfl (.agg x.toArray) H1.out ?_
          simp only [Act.put, List.setIfInBounds_toArray, List.set_cons_succ, List.set_cons_zero]
          repeat (go_big_quiet_step (first | (intro _; rfl)))
          refine wpQuiet_load_at rfl 77 (.tmp 22) rfl ⟨g2, o2 + k * 2, none⟩ rfl (.agg y.toArray) H2.out ?_
          simp only [Act.put, List.setIfInBounds_toArray, List.set_cons_succ, List.set_cons_zero]
          repeat (go_big_quiet_step (first | (intro _; rfl)))
          refine wpQuiet_nil ?_
          intro wq hBq
          have hB2 := hB0.out.trans (hBq.mono hB0.out.size)
          clear hBq heq
          go_wp2_with fail
          go_ret
          exact ⟨by rw [decide_eq_false Hne.out]; rfl, hB2⟩
        | true =>
          have Hn := Lib.hid (same_take hka hkb Hno.out (of_decide_eq_true Hr.out.symm))
          refine wp_region_class (Below wr.heap.size wr) (by kernel_rfl) (by kernel_rfl) (Below.refl _ _).drew ?_
          repeat (go_big_quiet_step (first | (intro _; rfl)))
          refine wpQuiet_load_at rfl 77 (.tmp 18) rfl ⟨g1, o1 + k * 2, none⟩ rfl (.agg x.toArray) H1.out ?_
          simp only [Act.put, List.setIfInBounds_toArray, List.set_cons_succ, List.set_cons_zero]
          repeat (go_big_quiet_step (first | (intro _; rfl)))
          refine wpQuiet_load_at rfl 77 (.tmp 22) rfl ⟨g2, o2 + k * 2, none⟩ rfl (.agg y.toArray) H2.out ?_
          simp only [Act.put, List.setIfInBounds_toArray, List.set_cons_succ, List.set_cons_zero]
          repeat (go_big_quiet_step (first | (intro _; rfl)))
          refine wpQuiet_nil ?_
          intro wq hBq
          have hB2 := hB0.out.trans (hBq.mono hB0.out.size)
          clear hBq heq
          go_wp2_with fail
          go_roundg (gk - 1)
          case measure => omega
          case rel => exact ⟨k + 1, by omega, by go_num, Hn.out, hB2⟩
      · have hnI : ¬ (k : Int) < (len : Int) := by omega
        have Hall : Hid (a = b) := Lib.hid (by
          have h := Hno.out
          rwa [List.take_of_length_le (by have := Ha.out; omega), List.take_of_length_le (by have := Hb.out; omega)] at h)
        go_wp2_with fail
        go_ret
        exact ⟨by rw [decide_eq_true Hall.out]; rfl, hB⟩
  · have hlI : ((a.length : Int) == (b.length : Int)) = false := beq_eq_false_iff_ne.2 (by omega)
    have Hne : Hid (a ≠ b) := Lib.hid (fun e => hlen (by rw [e]))
    clear hv hu hp hq
    go_enter Tryd.func42, Tryd.ntmps42
    go_wp2_with fail
    go_ret
    exact ⟨by rw [decide_eq_false Hne.out]; rfl, Below.refl _ _⟩

end Go.Proofs.YtdhaanaenklleaaDoor
namespace Go.Proofs.YtdhaanaenklleaaDoor.D
set_option linter.unusedVariables false
set_option linter.unusedSimpArgs false

/-- A file in a list: its path, its bytes' name. -/
abbrev Inp := ByteArray × (List UInt8 × Unit)
/-- A change: a path, a kind. -/
abbrev Chg := ByteArray × Int
/-- An order of paths. -/
structure Cm (cmp : ByteArray → ByteArray → Int) : Prop where
  neg : ∀ a b, cmp b a = - cmp a b
  zero : ∀ a b, cmp a b = 0 ↔ a = b
  lt : ∀ a b c, cmp a b < 0 → cmp b c < 0 → cmp a c < 0
section
variable {cmp : ByteArray → ByteArray → Int}
theorem Cm.self (h : Cm cmp) (a : ByteArray) : ¬ cmp a a < 0 := by
  have := (h.zero a a).2 rfl
  omega
theorem Cm.asy (h : Cm cmp) {a b : ByteArray} (h1 : cmp a b < 0) : ¬ cmp b a < 0 := by
  have := h.neg a b
  omega
theorem Cm.tri (h : Cm cmp) (a b : ByteArray) : cmp a b < 0 ∨ a = b ∨ cmp b a < 0 := by
  have h1 := h.neg a b
  have h2 := h.zero a b
  by_cases e : a = b
  · exact .inr (.inl e)
  · have : cmp a b ≠ 0 := fun x => e (h2.1 x)
    omega
/-- A list's paths rise. -/
def Ris {X : Type} (cmp : ByteArray → ByteArray → Int) (l : List (ByteArray × X)) : Prop := l.Pairwise fun x y => cmp x.1 y.1 < 0
theorem ris_same (h : Cm cmp) : ∀ (l m : List Chg), Ris cmp l → Ris cmp m → (∀ x, x ∈ l ↔ x ∈ m) → l = m
  | [], [], _, _, _ => rfl
  | [], y :: m, _, _, he => absurd ((he y).2 List.mem_cons_self) (by simp)
  | x :: l, [], _, _, he => absurd ((he x).1 List.mem_cons_self) (by simp)
  | x :: l, y :: m, hl, hm, he => by
    have hl1 := (List.pairwise_cons.1 hl).1
    have hm1 := (List.pairwise_cons.1 hm).1
    have hxy : x = y := by
      rcases List.mem_cons.1 ((he x).1 List.mem_cons_self) with e | e
      · exact e
      · rcases List.mem_cons.1 ((he y).2 List.mem_cons_self) with e' | e'
        · exact e'.symm
        · exact absurd (hl1 y e') (h.asy (hm1 x e))
    subst hxy
    congr 1
    refine ris_same h l m (List.pairwise_cons.1 hl).2 (List.pairwise_cons.1 hm).2 fun z => ⟨fun hz => ?_, fun hz => ?_⟩
    · rcases List.mem_cons.1 ((he z).1 (List.mem_cons_of_mem _ hz)) with e | e
      · subst e; exact absurd (hl1 z hz) (h.self _)
      · exact e
    · rcases List.mem_cons.1 ((he z).2 (List.mem_cons_of_mem _ hz)) with e | e
      · subst e; exact absurd (hm1 z hz) (h.self _)
      · exact e

/-! ### What is there at a path -/
def look : List Inp → ByteArray → Option (List UInt8)
  | [], _ => none
  | f :: r, p => if f.1 = p then some f.2.1 else look r p
theorem look_none {l : List Inp} {p : ByteArray} : look l p = none ↔ ∀ f ∈ l, f.1 ≠ p := by
  induction l with
  | nil => simp [look]
  | cons f r ih =>
    unfold look
    split
    · rename_i h; simp [h]
    · rename_i h; rw [ih]; simp [h]
theorem look_mem {l : List Inp} (h : Cm cmp) (hr : Ris cmp l) {f : Inp} (hf : f ∈ l) : look l f.1 = some f.2.1 := by
  induction l with
  | nil => cases hf
  | cons g r ih =>
    unfold look
    have h1 := (List.pairwise_cons.1 hr).1
    rcases List.mem_cons.1 hf with rfl | hm
    · rw [if_pos rfl]
    · rw [if_neg (fun e => by have := h1 f hm; rw [e] at this; exact h.self _ this)]
      exact ih (List.pairwise_cons.1 hr).2 hm
theorem look_some {l : List Inp} {p : ByteArray} {d : List UInt8} (h : look l p = some d) : ∃ f ∈ l, f.1 = p ∧ f.2.1 = d := by
  induction l with
  | nil => cases h
  | cons g r ih =>
    unfold look at h
    split at h
    · rename_i e; exact ⟨g, List.mem_cons_self, e, Option.some.inj h⟩
    · obtain ⟨f, h1, h2⟩ := ih h
      exact ⟨f, List.mem_cons_of_mem _ h1, h2⟩
def kindOf (a b : List Inp) (p : ByteArray) : Option Int :=
  match look a p, look b p with
  | none, none => none
  | some _, none => some 2
  | none, some _ => some 1
  | some x, some y => if x = y then none else some 3
theorem kindOf_none {a b : List Inp} {p : ByteArray} : kindOf a b p = none ↔ look a p = look b p := by
  unfold kindOf
  split <;> rename_i h1 h2 <;> rw [h1, h2] <;> simp

/-! ### Both gone through -/
def merge (cmp : ByteArray → ByteArray → Int) : List Inp → List Inp → List Chg
  | [], [] => []
  | [], g :: b => (g.1, 1) :: merge cmp [] b
  | f :: a, [] => (f.1, 2) :: merge cmp a []
  | f :: a, g :: b => if cmp f.1 g.1 < 0 then (f.1, 2) :: merge cmp a (g :: b) else if 0 < cmp f.1 g.1 then (g.1, 1) :: merge cmp (f :: a) b else if f.2.1 = g.2.1 then merge cmp a b else (f.1, 3) :: merge cmp a b
termination_by a b => a.length + b.length
theorem merge_from (cmp : ByteArray → ByteArray → Int) (n : Nat) : ∀ (a b : List Inp), a.length + b.length ≤ n → ∀ x ∈ merge cmp a b, (∃ f ∈ a, f.1 = x.1) ∨ (∃ g ∈ b, g.1 = x.1) := by
  induction n with
  | zero =>
    intro a b hn x hx
    obtain rfl := List.eq_nil_of_length_eq_zero (show a.length = 0 by omega)
    obtain rfl := List.eq_nil_of_length_eq_zero (show b.length = 0 by omega)
    rw [merge] at hx; cases hx
  | succ n ih =>
    intro a b hn x hx
    match a, b with
    | [], [] => rw [merge] at hx; cases hx
    | [], g :: b =>
      rw [merge] at hx
      rcases List.mem_cons.1 hx with rfl | h
      · exact .inr ⟨g, List.mem_cons_self, rfl⟩
      · rcases ih [] b (by simp at hn ⊢; omega) x h with ⟨f, hf, _⟩ | ⟨q, hq, e⟩
        · cases hf
        · exact .inr ⟨q, List.mem_cons_of_mem _ hq, e⟩
    | f :: a, [] =>
      rw [merge] at hx
      rcases List.mem_cons.1 hx with rfl | h
      · exact .inl ⟨f, List.mem_cons_self, rfl⟩
      · rcases ih a [] (by simp at hn ⊢; omega) x h with ⟨q, hq, e⟩ | ⟨q, hq, _⟩
        · exact .inl ⟨q, List.mem_cons_of_mem _ hq, e⟩
        · cases hq
    | f :: a, g :: b =>
      rw [merge] at hx
      have up : ∀ {a' b' : List Inp}, (∀ q ∈ a', q ∈ f :: a) → (∀ q ∈ b', q ∈ g :: b) → ((∃ q ∈ a', q.1 = x.1) ∨ (∃ q ∈ b', q.1 = x.1)) → ((∃ q ∈ f :: a, q.1 = x.1) ∨ (∃ q ∈ g :: b, q.1 = x.1)) := by
        intro a' b' h1 h2 h
        rcases h with ⟨q, hq, e⟩ | ⟨q, hq, e⟩
        · exact .inl ⟨q, h1 q hq, e⟩
        · exact .inr ⟨q, h2 q hq, e⟩
      have ca := fun (q : Inp) (hq : q ∈ a) => (List.mem_cons_of_mem f hq)
      have cb := fun (q : Inp) (hq : q ∈ b) => (List.mem_cons_of_mem g hq)
      simp only [List.length_cons] at hn
      split at hx
      · rcases List.mem_cons.1 hx with rfl | h
        · exact .inl ⟨f, List.mem_cons_self, rfl⟩
        · exact up ca (fun q hq => hq) (ih a (g :: b) (by simp; omega) x h)
      · split at hx
        · rcases List.mem_cons.1 hx with rfl | h
          · exact .inr ⟨g, List.mem_cons_self, rfl⟩
          · exact up (fun q hq => hq) cb (ih (f :: a) b (by simp; omega) x h)
        · split at hx
          · exact up ca cb (ih a b (by omega) x hx)
          · rcases List.mem_cons.1 hx with rfl | h
            · exact .inl ⟨f, List.mem_cons_self, rfl⟩
            · exact up ca cb (ih a b (by omega) x h)
theorem ris_head {X : Type} {f : ByteArray × X} {a : List (ByteArray × X)} (h : Ris cmp (f :: a)) : (∀ q ∈ a, cmp f.1 q.1 < 0) ∧ Ris cmp a := List.pairwise_cons.1 h
theorem merge_ris (h : Cm cmp) (n : Nat) : ∀ (a b : List Inp), a.length + b.length ≤ n → Ris cmp a → Ris cmp b → Ris cmp (merge cmp a b) := by
  induction n with
  | zero =>
    intro a b hn ha hb
    obtain rfl := List.eq_nil_of_length_eq_zero (show a.length = 0 by omega)
    obtain rfl := List.eq_nil_of_length_eq_zero (show b.length = 0 by omega)
    rw [merge]; exact List.Pairwise.nil
  | succ n ih =>
    intro a b hn ha hb
    have fr := merge_from cmp (n + 1)
    match a, b with
    | [], [] => rw [merge]; exact List.Pairwise.nil
    | [], g :: b =>
      obtain ⟨b1, b2⟩ := ris_head hb
      rw [merge]
      refine List.pairwise_cons.2 ⟨fun x hx => ?_, ih [] b (by simp at hn ⊢; omega) ha b2⟩
      rcases fr [] b (by simp at hn ⊢; omega) x hx with ⟨f, hf, _⟩ | ⟨q, hq, e⟩
      · cases hf
      · rw [← e]; exact b1 q hq
    | f :: a, [] =>
      obtain ⟨a1, a2⟩ := ris_head ha
      rw [merge]
      refine List.pairwise_cons.2 ⟨fun x hx => ?_, ih a [] (by simp at hn ⊢; omega) a2 hb⟩
      rcases fr a [] (by simp at hn ⊢; omega) x hx with ⟨q, hq, e⟩ | ⟨f, hf, _⟩
      · rw [← e]; exact a1 q hq
      · cases hf
    | f :: a, g :: b =>
      obtain ⟨a1, a2⟩ := ris_head ha
      obtain ⟨b1, b2⟩ := ris_head hb
      simp only [List.length_cons] at hn
      rw [merge]
      split
      · rename_i hlt
        refine List.pairwise_cons.2 ⟨fun x hx => ?_, ih a (g :: b) (by simp; omega) a2 hb⟩
        rcases fr a (g :: b) (by simp; omega) x hx with ⟨q, hq, e⟩ | ⟨q, hq, e⟩
        · rw [← e]; exact a1 q hq
        · rw [← e]
          rcases List.mem_cons.1 hq with rfl | hq
          · exact hlt
          · exact h.lt _ _ _ hlt (b1 q hq)
      · rename_i hlt
        split
        · rename_i hgt
          have hgf : cmp g.1 f.1 < 0 := by have := h.neg f.1 g.1; omega
          refine List.pairwise_cons.2 ⟨fun x hx => ?_, ih (f :: a) b (by simp; omega) ha b2⟩
          rcases fr (f :: a) b (by simp; omega) x hx with ⟨q, hq, e⟩ | ⟨q, hq, e⟩
          · rw [← e]
            rcases List.mem_cons.1 hq with rfl | hq
            · exact hgf
            · exact h.lt _ _ _ hgf (a1 q hq)
          · rw [← e]; exact b1 q hq
        · rename_i hgt
          have he : f.1 = g.1 := (h.zero _ _).1 (by omega)
          split
          · exact ih a b (by omega) a2 b2
          · refine List.pairwise_cons.2 ⟨fun x hx => ?_, ih a b (by omega) a2 b2⟩
            rcases fr a b (by omega) x hx with ⟨q, hq, e⟩ | ⟨q, hq, e⟩
            · rw [← e]; exact a1 q hq
            · rw [← e]
              show cmp f.1 q.1 < 0
              rw [he]; exact b1 q hq
theorem look_lt (h : Cm cmp) {l : List Inp} {p : ByteArray} (hl : ∀ q ∈ l, cmp p q.1 < 0) : look l p = none := look_none.2 fun f hf e => by
  have := hl f hf
  rw [e] at this
  exact h.self _ this
theorem look_ne {f : Inp} {a : List Inp} {p : ByteArray} (h : f.1 ≠ p) : look (f :: a) p = look a p := if_neg h
theorem look_eq {f : Inp} {a : List Inp} {p : ByteArray} (h : f.1 = p) : look (f :: a) p = some f.2.1 := if_pos h
theorem merge_mem (h : Cm cmp) (n : Nat) : ∀ (a b : List Inp), a.length + b.length ≤ n → Ris cmp a → Ris cmp b → ∀ p k, (p, k) ∈ merge cmp a b ↔ kindOf a b p = some k := by
  induction n with
  | zero =>
    intro a b hn ha hb p k
    obtain rfl := List.eq_nil_of_length_eq_zero (show a.length = 0 by omega)
    obtain rfl := List.eq_nil_of_length_eq_zero (show b.length = 0 by omega)
    rw [merge]; simp [kindOf, look]
  | succ n ih =>
    intro a b hn ha hb p k
    match a, b with
    | [], [] => rw [merge]; simp [kindOf, look]
    | [], g :: b =>
      obtain ⟨b1, b2⟩ := ris_head hb
      rw [merge, List.mem_cons, ih [] b (by simp at hn ⊢; omega) ha b2]
      by_cases hp : g.1 = p
      · have hl := look_lt h (l := b) (p := p) (by rw [← hp]; exact b1)
        unfold kindOf
        rw [look_eq hp, hl]
        simp [look, Prod.ext_iff, hp, eq_comm]
      · unfold kindOf
        rw [look_ne hp]
        have : ¬ (p = g.1) := fun e => hp e.symm
        simp [look, Prod.ext_iff, this]
    | f :: a, [] =>
      obtain ⟨a1, a2⟩ := ris_head ha
      rw [merge, List.mem_cons, ih a [] (by simp at hn ⊢; omega) a2 hb]
      by_cases hp : f.1 = p
      · have hl := look_lt h (l := a) (p := p) (by rw [← hp]; exact a1)
        unfold kindOf
        rw [look_eq hp, hl]
        simp [look, Prod.ext_iff, hp, eq_comm]
      · unfold kindOf
        rw [look_ne hp]
        have : ¬ (p = f.1) := fun e => hp e.symm
        simp [look, Prod.ext_iff, this]
    | f :: a, g :: b =>
      obtain ⟨a1, a2⟩ := ris_head ha
      obtain ⟨b1, b2⟩ := ris_head hb
      simp only [List.length_cons] at hn
      rw [merge]
      split
      · rename_i hlt
        rw [List.mem_cons, ih a (g :: b) (by simp; omega) a2 hb]
        by_cases hp : f.1 = p
        · have hl := look_lt h (l := a) (p := p) (by rw [← hp]; exact a1)
          have hl2 := look_lt h (l := g :: b) (p := p) (fun q hq => by
            rw [← hp]
            rcases List.mem_cons.1 hq with rfl | hq
            · exact hlt
            · exact h.lt _ _ _ hlt (b1 q hq))
          unfold kindOf
          rw [look_eq hp, hl, hl2]
          simp [Prod.ext_iff, hp, eq_comm]
        · unfold kindOf
          rw [look_ne (f := f) hp]
          have : ¬ (p = f.1) := fun e => hp e.symm
          simp [Prod.ext_iff, this]
      · rename_i hlt
        split
        · rename_i hgt
          have hgf : cmp g.1 f.1 < 0 := by have := h.neg f.1 g.1; omega
          rw [List.mem_cons, ih (f :: a) b (by simp; omega) ha b2]
          by_cases hp : g.1 = p
          · have hl := look_lt h (l := b) (p := p) (by rw [← hp]; exact b1)
            have hl2 := look_lt h (l := f :: a) (p := p) (fun q hq => by
              rw [← hp]
              rcases List.mem_cons.1 hq with rfl | hq
              · exact hgf
              · exact h.lt _ _ _ hgf (a1 q hq))
            unfold kindOf
            rw [look_eq hp, hl, hl2]
            simp [Prod.ext_iff, hp, eq_comm]
          · unfold kindOf
            rw [look_ne (f := g) hp]
            have : ¬ (p = g.1) := fun e => hp e.symm
            simp [Prod.ext_iff, this]
        · rename_i hgt
          have he : f.1 = g.1 := (h.zero _ _).1 (by omega)
          by_cases hp : f.1 = p
          · have hl := look_lt h (l := a) (p := p) (by rw [← hp]; exact a1)
            have hl2 := look_lt h (l := b) (p := p) (by rw [← hp, he]; exact b1)
            have e3 : kindOf (f :: a) (g :: b) p = if f.2.1 = g.2.1 then none else some 3 := by
              unfold kindOf
              rw [look_eq hp, look_eq (he ▸ hp)]
            have e4 : kindOf a b p = none := kindOf_none.2 (by rw [hl, hl2])
            rw [e3]
            split
            · rw [ih a b (by omega) a2 b2, e4]
            · rw [List.mem_cons, ih a b (by omega) a2 b2, e4]
              simp [Prod.ext_iff, hp, eq_comm]
          · have e3 : kindOf (f :: a) (g :: b) p = kindOf a b p := by
              unfold kindOf
              rw [look_ne hp, look_ne (f := g) (fun e => hp (he.trans e))]
            rw [e3]
            split
            · rw [ih a b (by omega) a2 b2]
            · have : ¬ (p = f.1) := fun e => hp e.symm
              rw [List.mem_cons, ih a b (by omega) a2 b2]
              simp [Prod.ext_iff, this]

/-! ### The document's -/
def baseL (b : List Inp) : List Inp → List Chg
  | [] => []
  | f :: a => match look b f.1 with
    | none => (f.1, 2) :: baseL b a
    | some d => if d = f.2.1 then baseL b a else (f.1, 3) :: baseL b a
/-- How many of the first n, from their end on, stand ahead of p. -/
def atL (cmp : ByteArray → ByteArray → Int) (out : List Chg) (p : ByteArray) : Nat → Nat
  | 0 => 0
  | n + 1 => if 0 < cmp (out.getD n (ByteArray.empty, 0)).1 p then atL cmp out p n else n + 1
def insL (cmp : ByteArray → ByteArray → Int) (out : List Chg) (p : ByteArray) : List Chg := out.take (atL cmp out p out.length) ++ [(p, 1)] ++ out.drop (atL cmp out p out.length)
def ofL (cmp : ByteArray → ByteArray → Int) (a : List Inp) : List Inp → List Chg → List Chg
  | [], out => out
  | f :: b, out => if look a f.1 = none then ofL cmp a b (insL cmp out f.1) else ofL cmp a b out
theorem base_mem (h : Cm cmp) (b : List Inp) : ∀ (a : List Inp), Ris cmp a → ∀ p k, (p, k) ∈ baseL b a ↔ (look a p ≠ none ∧ kindOf a b p = some k)
  | [], _, p, k => by simp [baseL, look]
  | f :: a, hr, p, k => by
    obtain ⟨a1, a2⟩ := ris_head hr
    have ih := base_mem h b a a2 p k
    by_cases hp : f.1 = p
    · have hl := look_lt h (l := a) (p := p) (by rw [← hp]; exact a1)
      have hno : ¬ ((p, k) ∈ baseL b a) := fun hm => (ih.1 hm).1 hl
      unfold baseL kindOf
      rw [look_eq hp, hp]
      cases e : look b p with
      | none =>
        simp only [List.mem_cons, hno, or_false]
        simp [Prod.ext_iff, eq_comm]
      | some d =>
        simp only
        by_cases hd : d = f.2.1
        · rw [if_pos hd, if_pos hd.symm]
          simp [hno]
        · rw [if_neg hd, if_neg (fun e => hd e.symm)]
          simp only [List.mem_cons, hno, or_false]
          simp [Prod.ext_iff, eq_comm]
    · have hne : ¬ (p = f.1) := fun e => hp e.symm
      have e3 : kindOf (f :: a) b p = kindOf a b p := by unfold kindOf; rw [look_ne hp]
      rw [e3, look_ne hp, ← ih]
      have e4 : baseL b (f :: a) = match look b f.1 with | none => (f.1, 2) :: baseL b a | some d => if d = f.2.1 then baseL b a else (f.1, 3) :: baseL b a := rfl
      rw [e4]
      cases look b f.1 with
      | none => simp [Prod.ext_iff, hne]
      | some d => simp only; split <;> simp [Prod.ext_iff, hne]
theorem base_paths (b : List Inp) : ∀ (a : List Inp), ∀ x ∈ baseL b a, ∃ f ∈ a, f.1 = x.1
  | [], x, hx => by cases hx
  | f :: a, x, hx => by
    have up : (∃ q ∈ a, q.1 = x.1) → ∃ q ∈ f :: a, q.1 = x.1 := fun ⟨q, hq, e⟩ => ⟨q, List.mem_cons_of_mem _ hq, e⟩
    unfold baseL at hx
    split at hx
    · rcases List.mem_cons.1 hx with rfl | h
      · exact ⟨f, List.mem_cons_self, rfl⟩
      · exact up (base_paths b a x h)
    · split at hx
      · exact up (base_paths b a x hx)
      · rcases List.mem_cons.1 hx with rfl | h
        · exact ⟨f, List.mem_cons_self, rfl⟩
        · exact up (base_paths b a x h)
theorem base_ris (b : List Inp) : ∀ (a : List Inp), Ris cmp a → Ris cmp (baseL b a)
  | [], _ => List.Pairwise.nil
  | f :: a, hr => by
    obtain ⟨a1, a2⟩ := ris_head hr
    have ih := base_ris b a a2
    have hf : ∀ x ∈ baseL b a, cmp f.1 x.1 < 0 := fun x hx => by
      obtain ⟨q, hq, e⟩ := base_paths b a x hx
      rw [← e]; exact a1 q hq
    unfold baseL
    split
    · exact List.pairwise_cons.2 ⟨hf, ih⟩
    · split
      · exact ih
      · exact List.pairwise_cons.2 ⟨hf, ih⟩
theorem atL_le (out : List Chg) (p : ByteArray) : ∀ n, atL cmp out p n ≤ n
  | 0 => Nat.le_refl _
  | n + 1 => by unfold atL; split; (have := atL_le out p n; omega); exact Nat.le_refl _
theorem atL_more (out : List Chg) (p : ByteArray) : ∀ n i, atL cmp out p n ≤ i → i < n → 0 < cmp (out.getD i (ByteArray.empty, 0)).1 p
  | 0, i, _, h => absurd h (Nat.not_lt_zero _)
  | n + 1, i, h1, h2 => by
    unfold atL at h1
    split at h1
    · rename_i hc
      by_cases e : i = n
      · rw [e]; exact hc
      · exact atL_more out p n i h1 (by omega)
    · omega
theorem atL_less (out : List Chg) (p : ByteArray) : ∀ n, 0 < atL cmp out p n → ¬ 0 < cmp (out.getD (atL cmp out p n - 1) (ByteArray.empty, 0)).1 p
  | 0, h => absurd h (Nat.lt_irrefl _)
  | n + 1, h => by
    unfold atL at h ⊢
    split
    · rename_i hc
      rw [if_pos hc] at h
      exact atL_less out p n h
    · rename_i hc; exact hc
theorem ris_get {l : List Chg} (hr : Ris cmp l) {i j : Nat} (hij : i < j) (hj : j < l.length) : cmp (l.getD i (ByteArray.empty, 0)).1 (l.getD j (ByteArray.empty, 0)).1 < 0 := by
  have := List.pairwise_iff_getElem.1 hr i j (by omega) hj hij
  simpa [List.getD, show i < l.length by omega, hj] using this
theorem insL_mem (out : List Chg) (p : ByteArray) (x : Chg) : x ∈ insL cmp out p ↔ x ∈ out ∨ x = (p, 1) := by
  unfold insL
  rw [List.mem_append, List.mem_append, List.mem_singleton]
  constructor
  · rintro ((h | h) | h)
    · exact .inl (List.mem_of_mem_take h)
    · exact .inr h
    · exact .inl (List.mem_of_mem_drop h)
  · rintro (h | h)
    · rw [← List.take_append_drop (atL cmp out p out.length) out, List.mem_append] at h
      rcases h with h | h
      · exact .inl (.inl h)
      · exact .inr h
    · exact .inl (.inr h)
theorem insL_ris (h : Cm cmp) {out : List Chg} {p : ByteArray} (hr : Ris cmp out) (hp : ∀ x ∈ out, x.1 ≠ p) : Ris cmp (insL cmp out p) := by
  have hle := atL_le (cmp := cmp) out p out.length
  have hmore := atL_more (cmp := cmp) out p out.length
  have hless := atL_less (cmp := cmp) out p out.length
  unfold insL
  generalize atL cmp out p out.length = n at *
  have hlow : ∀ i, i < n → cmp (out.getD i (ByteArray.empty, 0)).1 p < 0 := fun i hi => by
    have h1 := hless (by omega)
    have hne : (out.getD (n - 1) (ByteArray.empty, 0)).1 ≠ p := hp _ (by
      have : n - 1 < out.length := by omega
      simp [List.getD, this])
    have h2 : cmp (out.getD (n - 1) (ByteArray.empty, 0)).1 p < 0 := by
      have := h.zero (out.getD (n - 1) (ByteArray.empty, 0)).1 p
      have h3 : cmp (out.getD (n - 1) (ByteArray.empty, 0)).1 p ≠ 0 := fun e => hne (this.1 e)
      omega
    by_cases e : i = n - 1
    · rw [e]; exact h2
    · exact h.lt _ _ _ (ris_get hr (show i < n - 1 by omega) (by omega)) h2
  have hhigh : ∀ i, n ≤ i → i < out.length → cmp p (out.getD i (ByteArray.empty, 0)).1 < 0 := fun i h1 h2 => by
    have := hmore i h1 h2
    have h3 := h.neg (out.getD i (ByteArray.empty, 0)).1 p
    omega
  have ht : ∀ x ∈ out.take n, cmp x.1 p < 0 := fun x hx => by
    obtain ⟨i, hi⟩ := List.getElem?_of_mem hx
    have hin : i < n := by
      have := (List.getElem?_eq_some_iff.1 hi).1
      rw [List.length_take] at this; omega
    rw [List.getElem?_take_of_lt hin] at hi
    have := hlow i hin
    rw [List.getD_eq_getElem?_getD, hi] at this
    exact this
  have hd : ∀ x ∈ out.drop n, cmp p x.1 < 0 := fun x hx => by
    obtain ⟨i, hi⟩ := List.getElem?_of_mem hx
    rw [List.getElem?_drop] at hi
    have := hhigh (n + i) (by omega) (List.getElem?_eq_some_iff.1 hi).1
    rw [List.getD_eq_getElem?_getD, hi] at this
    exact this
  rw [List.append_assoc]
  refine List.pairwise_append.2 ⟨hr.sublist (List.take_sublist _ _), List.pairwise_cons.2 ⟨hd, hr.sublist (List.drop_sublist _ _)⟩, fun x hx y hy => ?_⟩
  rcases List.mem_append.1 hy with hy | hy
  · rw [List.mem_singleton.1 hy]; exact ht x hx
  · exact h.lt _ _ _ (ht x hx) (hd y hy)
theorem ofL_all (h : Cm cmp) (a : List Inp) : ∀ (b : List Inp) (out : List Chg), Ris cmp b → Ris cmp out → (∀ f ∈ b, look a f.1 = none → ∀ x ∈ out, x.1 ≠ f.1) →
    Ris cmp (ofL cmp a b out) ∧ ∀ x, x ∈ ofL cmp a b out ↔ x ∈ out ∨ ∃ f ∈ b, look a f.1 = none ∧ x = (f.1, 1)
  | [], out, _, ho, _ => ⟨ho, fun x => by simp [ofL]⟩
  | f :: b, out, hb, ho, hn => by
    obtain ⟨b1, b2⟩ := ris_head hb
    unfold ofL
    split
    · rename_i hl
      have hp := hn f List.mem_cons_self hl
      obtain ⟨h1, h2⟩ := ofL_all h a b (insL cmp out f.1) b2 (insL_ris h ho hp) (fun g hg hlg x hx => by
        rcases (insL_mem _ _ _).1 hx with hx | hx
        · exact hn g (List.mem_cons_of_mem _ hg) hlg x hx
        · rw [hx]
          intro e
          have := b1 g hg
          have e' : f.1 = g.1 := e
          rw [e'] at this
          exact h.self _ this)
      refine ⟨h1, fun x => ?_⟩
      rw [h2, insL_mem]
      constructor
      · rintro ((hx | hx) | ⟨g, hg, hlg, hx⟩)
        · exact .inl hx
        · exact .inr ⟨f, List.mem_cons_self, hl, hx⟩
        · exact .inr ⟨g, List.mem_cons_of_mem _ hg, hlg, hx⟩
      · rintro (hx | ⟨g, hg, hlg, hx⟩)
        · exact .inl (.inl hx)
        · rcases List.mem_cons.1 hg with rfl | hg
          · exact .inl (.inr hx)
          · exact .inr ⟨g, hg, hlg, hx⟩
    · rename_i hl
      obtain ⟨h1, h2⟩ := ofL_all h a b out b2 ho (fun g hg hlg => hn g (List.mem_cons_of_mem _ hg) hlg)
      refine ⟨h1, fun x => ?_⟩
      rw [h2]
      constructor
      · rintro (hx | ⟨g, hg, hlg, hx⟩)
        · exact .inl hx
        · exact .inr ⟨g, List.mem_cons_of_mem _ hg, hlg, hx⟩
      · rintro (hx | ⟨g, hg, hlg, hx⟩)
        · exact .inl hx
        · rcases List.mem_cons.1 hg with rfl | hg
          · exact absurd hlg hl
          · exact .inr ⟨g, hg, hlg, hx⟩
/-- THE CHANGES BY THE DOCUMENT ARE THOSE THAT GOING THROUGH BOTH LISTS TELLS. -/
theorem of_merge (h : Cm cmp) {a b : List Inp} (ha : Ris cmp a) (hb : Ris cmp b) : ofL cmp a b (baseL b a) = merge cmp a b := by
  obtain ⟨h1, h2⟩ := ofL_all h a b (baseL b a) hb (base_ris b a ha) (fun f hf hl x hx e => by
    obtain ⟨q, hq, e2⟩ := base_paths b a x hx
    have := look_mem h ha hq
    rw [e2, e, hl] at this
    cases this)
  refine ris_same h _ _ h1 (merge_ris h _ a b (Nat.le_refl _) ha hb) fun x => ?_
  obtain ⟨p, k⟩ := x
  rw [h2, merge_mem h _ a b (Nat.le_refl _) ha hb, base_mem h b a ha]
  constructor
  · rintro (⟨_, hk⟩ | ⟨f, hf, hl, e⟩)
    · exact hk
    · cases e
      unfold kindOf
      rw [hl, look_mem h hb hf]
  · intro hk
    by_cases hl : look a p = none
    · right
      unfold kindOf at hk
      rw [hl] at hk
      cases e : look b p with
      | none => rw [e] at hk; simp at hk
      | some d =>
        rw [e] at hk
        obtain ⟨f, hf, rfl, _⟩ := look_some e
        exact ⟨f, hf, hl, by simpa using hk.symm⟩
    · exact .inl ⟨hl, hk⟩
/-- There and back. -/
def back (x : Chg) : Chg := (x.1, if x.2 = 3 then 3 else 3 - x.2)
theorem merge_back (h : Cm cmp) (n : Nat) : ∀ (a b : List Inp), a.length + b.length ≤ n → merge cmp b a = (merge cmp a b).map back := by
  induction n with
  | zero =>
    intro a b hn
    obtain rfl := List.eq_nil_of_length_eq_zero (show a.length = 0 by omega)
    obtain rfl := List.eq_nil_of_length_eq_zero (show b.length = 0 by omega)
    rw [merge]; rfl
  | succ n ih =>
    intro a b hn
    match a, b with
    | [], [] => rw [merge]; rfl
    | [], g :: b => rw [merge, merge, ih [] b (by simp at hn ⊢; omega)]; rfl
    | f :: a, [] => rw [merge, merge, ih a [] (by simp at hn ⊢; omega)]; rfl
    | f :: a, g :: b =>
      simp only [List.length_cons] at hn
      have hneg := h.neg f.1 g.1
      rw [merge, merge]
      by_cases h1 : cmp f.1 g.1 < 0
      · rw [if_neg (by omega), if_pos (by omega), if_pos h1, ih a (g :: b) (by simp; omega)]; rfl
      · by_cases h2 : 0 < cmp f.1 g.1
        · rw [if_pos (by omega), if_neg h1, if_pos h2, ih (f :: a) b (by simp; omega)]; rfl
        · have he : f.1 = g.1 := (h.zero _ _).1 (by omega)
          rw [if_neg (by omega), if_neg (by omega), if_neg h1, if_neg h2]
          by_cases h3 : f.2.1 = g.2.1
          · rw [if_pos h3, if_pos h3.symm, ih a b (by omega)]
          · rw [if_neg h3, if_neg (fun e => h3 e.symm), ih a b (by omega), List.map_cons, he]; rfl
theorem merge_nil (h : Cm cmp) {a b : List Inp} (ha : Ris cmp a) (hb : Ris cmp b) : merge cmp a b = [] ↔ a = b := by
  constructor
  · intro e
    have hm := merge_mem h _ a b (Nat.le_refl _) ha hb
    rw [e] at hm
    have hk : ∀ p, look a p = look b p := fun p => by
      cases hk : kindOf a b p with
      | none => exact kindOf_none.1 hk
      | some k => exact absurd ((hm p k).2 hk) (by simp)
    clear hm e
    induction a generalizing b with
    | nil =>
      cases b with
      | nil => rfl
      | cons g b => have := hk g.1; rw [look_eq rfl] at this; cases this
    | cons f a ih =>
      cases b with
      | nil => have := hk f.1; rw [look_eq rfl] at this; cases this
      | cons g b =>
        obtain ⟨a1, a2⟩ := ris_head ha
        obtain ⟨b1, b2⟩ := ris_head hb
        have hfg : f.1 = g.1 := by
          rcases h.tri f.1 g.1 with hlt | e | hlt
          · have := hk f.1
            rw [look_eq rfl, look_lt h (l := g :: b) (fun q hq => by
              rcases List.mem_cons.1 hq with rfl | hq
              · exact hlt
              · exact h.lt _ _ _ hlt (b1 q hq))] at this
            cases this
          · exact e
          · have := hk g.1
            rw [look_eq (f := g) rfl, look_lt h (l := f :: a) (fun q hq => by
              rcases List.mem_cons.1 hq with rfl | hq
              · exact hlt
              · exact h.lt _ _ _ hlt (a1 q hq))] at this
            cases this
        have hd := hk f.1
        rw [look_eq rfl, look_eq hfg.symm] at hd
        have hfe : f = g := by
          obtain ⟨fp, fd, fu⟩ := f
          obtain ⟨gp, gd, gu⟩ := g
          simp only at hfg hd
          have := Option.some.inj hd
          subst hfg; subst this; rfl
        subst hfe
        congr 1
        refine ih a2 b2 fun p => ?_
        by_cases hp : f.1 = p
        · rw [look_lt h (by rw [← hp]; exact a1), look_lt h (by rw [← hp]; exact b1)]
        · have := hk p
          rwa [look_ne hp, look_ne hp] at this
  · rintro rfl
    cases e : merge cmp a a with
    | nil => rfl
    | cons x l =>
      have := (merge_mem h _ a a (Nat.le_refl _) ha ha x.1 x.2).1 (by rw [e]; exact List.mem_cons_self)
      rw [kindOf_none.2 rfl] at this
      cases this
theorem merge_joins (h : Cm cmp) {a b c : List Inp} (ha : Ris cmp a) (hb : Ris cmp b) (hc : Ris cmp c) {x : Chg} (hx : x ∈ merge cmp a c) : (∃ y ∈ merge cmp a b, x.1 = y.1) ∨ (∃ y ∈ merge cmp b c, x.1 = y.1) := by
  have h1 := (merge_mem h _ a c (Nat.le_refl _) ha hc x.1 x.2).1 hx
  cases h2 : kindOf a b x.1 with
  | some k => exact .inl ⟨(x.1, k), (merge_mem h _ a b (Nat.le_refl _) ha hb x.1 k).2 h2, rfl⟩
  | none =>
    cases h3 : kindOf b c x.1 with
    | some k => exact .inr ⟨(x.1, k), (merge_mem h _ b c (Nat.le_refl _) hb hc x.1 k).2 h3, rfl⟩
    | none =>
      have := kindOf_none.2 ((kindOf_none.1 h2).trans (kindOf_none.1 h3))
      rw [h1] at this
      cases this
end
end Go.Proofs.YtdhaanaenklleaaDoor.D
namespace Go.Proofs.YtdhaanaenklleaaDoor
set_option linter.unusedVariables false
open Go.ChangeShapes Go.WideShapes Go.ChangeAt Go.RowKit

def MaxAt (w : World) : Prop := 1 < w.heap.size ∧ ∃ m : Int, w.cell? ⟨1, 0, none⟩ = some (.int .i64 m)
theorem MaxAt.below {w w' : World} (h : MaxAt w) (hB : Below w.heap.size w w') : MaxAt w' := by
  obtain ⟨h1, m, h2⟩ := h
  exact ⟨Nat.lt_of_lt_of_le h1 hB.size, m, (hB.cell (p := ⟨1, 0, none⟩) h1).trans h2⟩
def firstI : List Inp → List Inp → Int
  | [], _ => 1
  | _ :: _, [] => -1
  | f :: _, g :: _ => cmpP f.1 g.1
/-- A list's head, in memory. -/
theorem Rows.head {w : World} {v : Value} {f : Inp} {a : List Inp} (h : Rows w 33 inpR v (f :: a)) :
    ∃ b off cap, v = .slice (some ⟨b, off, none⟩) (a.length + 1) cap ∧ b < w.heap.size ∧ a.length + 1 ≤ cap ∧ cap ≤ 9223372036854775807 ∧ w.cell? ⟨b, off, none⟩ = some (.string f.1) ∧ w.rangeAt b (off + 1) (bytV f.2.1) ∧ f.2.1.length = 32 ∧ f.1.size ≤ 140737488351232 := by
  obtain ⟨p, cap, rfl, hp⟩ := h.shape
  obtain ⟨b, off, rfl, hb, hcap, hmax, hcell⟩ := hp (by simp)
  obtain ⟨ecs, he, hl, hat⟩ := hcell 0 f rfl
  obtain ⟨rfl, h1, h2⟩ := inp_cells he
  unfold maxLen at hmax
  refine ⟨b, off, cap, rfl, hb, hcap, by omega, ?_, ?_, h2, h1⟩
  · have := hat 0 (by decide)
    simpa using this
  · intro j z hz
    have hj := (List.getElem?_eq_some_iff.1 hz).1
    rw [bytV_len, h2] at hj
    have := hat (j + 1) (by omega)
    rw [List.getElem?_cons_succ, hz] at this
    rw [← this]
    congr 2
    omega
theorem Rows.empty {w : World} {n : Nat} {X : Type} {R : X → List Value → Prop} {v : Value} (h : Rows w n R v []) : ∃ p cap, v = .slice p 0 cap := by
  obtain ⟨p, cap, rfl, -⟩ := h.shape
  exact ⟨p, cap, rfl⟩
set_option maxHeartbeats 1000000 in
theorem first_any (v u : Value) (a b : List Inp) (w : World) (hM : MaxAt w) (hv : Rows w 33 inpR v a) (hu : Rows w 33 inpR u b) (hza : ∀ x ∈ a, x.1.size ≤ 1073741824) (hzb : ∀ x ∈ b, x.1.size ≤ 1073741824) :
    Calls Tryd.prog 70 #[v, u] w fun e w' => e = .returned (.int .i64 (firstI a b)) ∧ Below w.heap.size w w' := by
  cases a with
  | nil =>
    obtain ⟨p, cap, rfl⟩ := Rows.empty hv
    obtain ⟨q, cap2, rfl, -⟩ := hu.shape
    clear hv hu
    go_enter Tryd.func70, Tryd.ntmps70
    go_wp2_with fail
    go_ret
    exact ⟨rfl, Below.refl _ _⟩
  | cons f a =>
    obtain ⟨b1, o1, cap, rfl, hb1, hcap1, hmax1, hc1, -, -, -⟩ := Rows.head hv
    have hpos : (0 : Int) < ((a.length + 1 : Nat) : Int) := by omega
    have hpe : (((a.length + 1 : Nat) : Int) == 0) = false := beq_eq_false_iff_ne.2 (by omega)
    cases b with
    | nil =>
      obtain ⟨q, cap2, rfl⟩ := Rows.empty hu
      clear hv hu
      generalize a.length + 1 = la at *
      go_enter Tryd.func70, Tryd.ntmps70
      go_wp2_with fail
      go_ret
      exact ⟨rfl, Below.refl _ _⟩
    | cons g b =>
      obtain ⟨b2, o2, cap2, rfl, hb2, hcap2, hmax2, hc2, -, -, -⟩ := Rows.head hu
      have hposb : (0 : Int) < ((b.length + 1 : Nat) : Int) := by omega
      have hpeb : (((b.length + 1 : Nat) : Int) == 0) = false := beq_eq_false_iff_ne.2 (by omega)
      have hf := hza f List.mem_cons_self
      have hg := hzb g List.mem_cons_self
      have HL1 := Lib.hid (fun w1 (h1 : Below w.heap.size w w1) => (by have h := (h1.cell (p := ⟨b1, o1, none⟩) hb1).trans hc1; simp [go_sem, h] : (loadVar 9 ⟨b1, o1, none⟩).run Tryd.prog w1 = .ok (.string f.1) w1))
      have HL2 := Lib.hid (fun w1 (h1 : Below w.heap.size w w1) => (by have h := (h1.cell (p := ⟨b2, o2, none⟩) hb2).trans hc2; simp [go_sem, h] : (loadVar 9 ⟨b2, o2, none⟩).run Tryd.prog w1 = .ok (.string g.1) w1))
      have HC := Lib.hid (fun w1 (h1 : Below w.heap.size w w1) => (by obtain ⟨m, hm⟩ := (hM.below h1).2; exact (pcmp_any f.1 g.1 m w1 hm hf hg).mono (fun e w2 hh => (⟨hh.1, h1.trans (hh.2.mono h1.size)⟩ : e = .returned (.int .i64 (cmpP f.1 g.1)) ∧ Below w.heap.size w w2)) : Calls Tryd.prog 63 #[.string f.1, .string g.1] w1 fun e w2 => e = .returned (.int .i64 (cmpP f.1 g.1)) ∧ Below w.heap.size w w2))
      clear hv hu hM hza hzb hc1 hc2
      show Calls Tryd.prog 70 _ w fun e w' => e = .returned (.int .i64 (cmpP f.1 g.1)) ∧ Below w.heap.size w w'
      generalize cmpP f.1 g.1 = r at *
      generalize f.1 = x at *
      generalize g.1 = y at *
      generalize a.length + 1 = la at *
      generalize b.length + 1 = lb at *
      go_enter Tryd.func70, Tryd.ntmps70
      go_wp2_with fail
      refine wp_region_class (Below w.heap.size w) (by kernel_rfl) (by kernel_rfl) (Below.refl _ _).drew ?_
      repeat (go_big_quiet_step (first | (intro hh; with_reducible exact HC.out _ hh) | (intro _; rfl)))
      refine wpQuiet_load_at rfl 9 (.tmp 13) rfl ⟨b1, o1, none⟩ rfl (.string x) HL1.out ?_
      simp only [Act.put, List.setIfInBounds_toArray, List.set_cons_succ, List.set_cons_zero]
      repeat (go_big_quiet_step (first | (intro hh; with_reducible exact HC.out _ hh) | (intro _; rfl)))
      refine wpQuiet_load_at rfl 9 (.tmp 17) rfl ⟨b2, o2, none⟩ rfl (.string y) HL2.out ?_
      simp only [Act.put, List.setIfInBounds_toArray, List.set_cons_succ, List.set_cons_zero]
      repeat (go_big_quiet_step (first | (intro hh; with_reducible exact HC.out _ hh) | (intro _; rfl)))
      refine wpQuiet_nil ?_
      intro wq hBq
      go_wp2_with fail
      go_ret
      exact ⟨rfl, hBq⟩
end Go.Proofs.YtdhaanaenklleaaDoor
namespace Go.Proofs.YtdhaanaenklleaaDoor
set_option linter.unusedVariables false
set_option linter.unusedSimpArgs false
open Go.ChangeShapes Go.WideShapes Go.ChangeAt Go.RowKit

def risB : List Inp → Bool
  | f :: g :: r => decide (cmpP f.1 g.1 < 0) && risB (g :: r)
  | _ => true
theorem ris_at : ∀ (l : List Inp), risB l = true ↔ ∀ k, ∀ h : k + 1 < l.length, cmpP (l[k]'(by omega)).1 l[k + 1].1 < 0
  | [] => by simp [risB]
  | [f] => by simp [risB]
  | f :: g :: r => by
    have ih := ris_at (g :: r)
    unfold risB
    rw [Bool.and_eq_true, decide_eq_true_iff, ih]
    constructor
    · rintro ⟨h1, h2⟩ k hk
      cases k with
      | zero => exact h1
      | succ k => exact h2 k (by simpa using hk)
    · intro h
      refine ⟨h 0 (by simp), fun k hk => ?_⟩
      have := h (k + 1) (by simpa using hk)
      simpa using this
/-- An element's path, in memory. -/
theorem Rows.path {w w1 : World} {b off : Nat} {cap : Nat} {a : List Inp} {k : Nat} (hk : k < a.length) (hb : b < w.heap.size) (hcell : ∀ i x, a[i]? = some x → ∃ ecs, inpR x ecs ∧ ecs.length = 33 ∧ ∀ j, j < 33 → w.cell? ⟨b, off + i * 33 + j, none⟩ = ecs[j]?) (hB : Below w.heap.size w w1) :
    (loadVar 9 ⟨b, off + k * 33, none⟩).run Tryd.prog w1 = .ok (.string a[k].1) w1 := by
  obtain ⟨ecs, he, hl, hat⟩ := hcell k a[k] (List.getElem?_eq_getElem hk)
  obtain ⟨rfl, h1, h2⟩ := inp_cells he
  have h := (hB.cell (p := ⟨b, off + k * 33 + 0, none⟩) hb).trans (hat 0 (by decide))
  simp at h
  simp [go_sem, h]
set_option maxRecDepth 100000 in
set_option maxHeartbeats 2000000 in
theorem rises_any (v : Value) (a : List Inp) (w : World) (hv : Rows w 33 inpR v a) (hza : ∀ x ∈ a, x.1.size ≤ 1073741824) :
    Calls Tryd.prog 69 #[v] w fun e w' => e = .returned (.bool (risB a)) ∧ Below w.heap.size w w' := by
  obtain ⟨p, cap, rfl, hp⟩ := hv.shape
  have Hp := Lib.hid hp
  obtain ⟨len, hl⟩ : ∃ len, len = a.length := ⟨_, rfl⟩
  rw [← hl] at Hp ⊢
  have Ha := Lib.hid hl
  have Hz := Lib.hid hza
  clear hv hp hl hza
  go_enter Tryd.func69, Tryd.ntmps69
  go_wp2_with fail
  go_loopg [3, 6] len (fun g _ iv wr => ∃ k : Nat, k + g = len ∧ iv = .int .i64 k ∧ (∀ j, ∀ h : j + 1 < a.length, j + 1 < k → cmpP (a[j]'(by omega)).1 a[j + 1].1 < 0) ∧ Below w.heap.size w wr)
  case atStart => exact ⟨0, by omega, rfl, fun j h hj => by omega, Below.refl _ _⟩
  case round =>
    obtain ⟨k, hkg, rfl, hno, hB⟩ := hrel
    have Hno := Lib.hid hno
    have hB0 := Lib.hid hB
    clear hno
    by_cases hlt : k < len
    · have hltI : (k : Int) < (len : Int) := by omega
      have hka : k < a.length := by have := Ha.out; omega
      cases k with
      | zero =>
        clear hB
        go_wp2_with fail
        refine wp_region_class (Below wr.heap.size wr) (by kernel_rfl) (by kernel_rfl) (Below.refl _ _).drew ?_
        repeat (go_big_quiet_step (first | (intro _; rfl)))
        refine wpQuiet_nil ?_
        intro wq hBq
        have hB2 := hB0.out.trans (hBq.mono hB0.out.size)
        clear hBq
        go_wp2_with fail
        go_roundg (gk - 1)
        case measure => omega
        case rel => exact ⟨1, by omega, by go_num, fun j h hj => by omega, hB2⟩
      | succ k =>
        obtain ⟨b, off, rfl, hb, hcap, hmax, hcell⟩ := Hp.out (by omega)
        have H1 := Lib.hid (fun w1 (h1 : Below wr.heap.size wr w1) => Rows.path (cap := cap) (k := k) (by omega) hb hcell (hB.trans (h1.mono hB.size)))
        have H2 := Lib.hid (fun w1 (h1 : Below wr.heap.size wr w1) => Rows.path (cap := cap) hka hb hcell (hB.trans (h1.mono hB.size)))
        have hs1 := Hz.out _ (List.getElem_mem (l := a) (n := k) (by omega))
        have hs2 := Hz.out _ (List.getElem_mem hka)
        have HC := Lib.hid (fun w1 (h1 : Below wr.heap.size wr w1) => (refCmp_any (a[k]'(by omega)).1 a[k + 1].1 w1 hs1 hs2).mono (fun e w2 hh => (⟨hh.1, h1.trans (hh.2.mono h1.size)⟩ : e = .returned (.int .i64 (cmpP (a[k]'(by omega)).1 a[k + 1].1)) ∧ Below wr.heap.size wr w2)))
        obtain ⟨od, hod⟩ : ∃ od, od = cmpP (a[k]'(by omega)).1 a[k + 1].1 := ⟨_, rfl⟩
        rw [← hod] at HC
        have Hod := Lib.hid hod
        obtain ⟨x, hx⟩ : ∃ x, x = (a[k]'(by omega)).1 := ⟨_, rfl⟩
        obtain ⟨y, hy⟩ : ∃ y, y = a[k + 1].1 := ⟨_, rfl⟩
        rw [← hx] at H1 HC
        rw [← hy] at H2 HC
        unfold maxLen at hmax
        have hix : ((k + 1 : Nat) : Int) - 1 = (k : Int) := by omega
        have hkI : (k : Int) < (len : Int) := by omega
        have hk0 : (0 : Int) < ((k + 1 : Nat) : Int) := by omega
        clear hx hy hod hcell hB hs1 hs2
        by_cases hlt0 : od < 0
        · have hge : ¬ 0 ≤ od := by omega
          go_wp2_with fail
          refine wp_region_class (Below wr.heap.size wr) (by kernel_rfl) (by kernel_rfl) (Below.refl _ _).drew ?_
          repeat (go_big_quiet_step (first | (intro hh; with_reducible exact HC.out _ hh) | (intro _; rfl)))
          refine wpQuiet_load_at rfl 9 (.tmp 16) rfl ⟨b, off + k * 33, none⟩ rfl (.string x) H1.out ?_
          simp only [Act.put, List.setIfInBounds_toArray, List.set_cons_succ, List.set_cons_zero]
          repeat (go_big_quiet_step (first | (intro hh; with_reducible exact HC.out _ hh) | (intro _; rfl)))
          refine wpQuiet_load_at rfl 9 (.tmp 21) rfl ⟨b, off + (k + 1) * 33, none⟩ rfl (.string y) H2.out ?_
          simp only [Act.put, List.setIfInBounds_toArray, List.set_cons_succ, List.set_cons_zero]
          repeat (go_big_quiet_step (first | (intro hh; with_reducible exact HC.out _ hh) | (intro _; rfl)))
          refine wpQuiet_nil ?_
          intro wq hBq
          have hB2 := hB0.out.trans (hBq.mono hB0.out.size)
          clear hBq
          go_wp2_with fail
          go_roundg (gk - 1)
          case measure => omega
          case rel => exact ⟨k + 1 + 1, by omega, by go_num, fun j h hj => by
            by_cases e : j = k
            · subst e; rw [← Hod.out]; exact hlt0
            · exact Hno.out j h (by omega), hB2⟩
        · have hge : 0 ≤ od := by omega
          go_wp2_with fail
          refine wp_region_class (Below wr.heap.size wr) (by kernel_rfl) (by kernel_rfl) (Below.refl _ _).drew ?_
          repeat (go_big_quiet_step (first | (intro hh; with_reducible exact HC.out _ hh) | (intro _; rfl)))
          refine wpQuiet_load_at rfl 9 (.tmp 16) rfl ⟨b, off + k * 33, none⟩ rfl (.string x) H1.out ?_
          simp only [Act.put, List.setIfInBounds_toArray, List.set_cons_succ, List.set_cons_zero]
          repeat (go_big_quiet_step (first | (intro hh; with_reducible exact HC.out _ hh) | (intro _; rfl)))
          refine wpQuiet_load_at rfl 9 (.tmp 21) rfl ⟨b, off + (k + 1) * 33, none⟩ rfl (.string y) H2.out ?_
          simp only [Act.put, List.setIfInBounds_toArray, List.set_cons_succ, List.set_cons_zero]
          repeat (go_big_quiet_step (first | (intro hh; with_reducible exact HC.out _ hh) | (intro _; rfl)))
          refine wpQuiet_nil ?_
          intro wq hBq
          have hB2 := hB0.out.trans (hBq.mono hB0.out.size)
          clear hBq
          go_wp2_with fail
          go_ret
          refine ⟨?_, hB2⟩
          have : risB a = false := by
            rw [Bool.eq_false_iff]
            intro h
            have := (ris_at a).1 h k hka
            rw [← Hod.out] at this
            omega
          rw [this]; rfl
    · have hnI : ¬ (k : Int) < (len : Int) := by omega
      have Hall : Hid (risB a = true) := Lib.hid ((ris_at a).2 fun j h => Hno.out j h (by have := Ha.out; omega))
      go_wp2_with fail
      go_ret
      exact ⟨by rw [Hall.out]; rfl, hB⟩
end Go.Proofs.YtdhaanaenklleaaDoor
namespace Go.Proofs.YtdhaanaenklleaaDoor
set_option linter.unusedVariables false
set_option linter.unusedSimpArgs false
open Go.ChangeShapes Go.WideShapes Go.ChangeAt Go.RowKit

def sumL : List Inp → Nat | [] => 0 | f :: r => f.1.size + sumL r
theorem sumL_app (a b : List Inp) : sumL (a ++ b) = sumL a + sumL b := by
  induction a with
  | nil => simp [sumL]
  | cons f r ih => simp only [List.cons_append, sumL, ih]; omega
theorem sumL_mem {a : List Inp} {x : Inp} (h : x ∈ a) : x.1.size ≤ sumL a := by
  induction a with
  | nil => cases h
  | cons f r ih =>
    simp only [sumL]
    rcases List.mem_cons.1 h with rfl | h
    · omega
    · have := ih h; omega
theorem sumL_next {a : List Inp} {k : Nat} (h : k < a.length) : sumL (a.take (k + 1)) = sumL (a.take k) + a[k].1.size := by
  rw [List.take_succ_eq_append_getElem h, sumL_app]; simp [sumL]
theorem sumL_le (a : List Inp) (k : Nat) : sumL (a.take k) ≤ sumL a := by
  have := sumL_app (a.take k) (a.drop k)
  rw [List.take_append_drop] at this
  omega
def oddB (a : List Inp) : Bool := decide (4096 < sumL a) || decide (60 < a.length) || !(risB a)
theorem one_cells (s : ByteArray) (l : List UInt8) : ((Value.string s :: bytV l).toArray).all (·.oneCell') = true := by
  rw [Array.all_eq_true_iff_forall_mem]
  intro x hx
  simp only [List.mem_toArray, List.mem_cons, bytV, List.mem_map] at hx
  rcases hx with rfl | ⟨b, _, rfl⟩ <;> rfl
theorem box_cell (w : World) (old : Array Value) (s : ByteArray) (l : List UInt8) : ((w.alloc (.cells old 113)).setRow w.heap.size (Value.string s :: bytV l).toArray).cell? ⟨w.heap.size, 0, none⟩ = some (.string s) := by
  rw [cell_setRow_same _ _ _ old _ 113 (0, 0) (by show (w.heap.push _)[w.heap.size]? = _; simp)]
  simp
set_option maxRecDepth 100000 in
set_option maxHeartbeats 2000000 in
theorem odd_any (v : Value) (a : List Inp) (w : World) (hv : Rows w 33 inpR v a) :
    Calls Tryd.prog 41 #[v] w fun e w' => e = .returned (.bool (oddB a)) ∧ Below w.heap.size w w' := by
  have HR := Lib.hid (fun (hz : sumL a ≤ 4096) w1 (h1 : Below w.heap.size w w1) => rises_any v a w1 (hv.below h1) (fun x hx => by have := sumL_mem hx; omega))
  obtain ⟨p, cap, rfl, hp⟩ := hv.shape
  have Hp := Lib.hid hp
  obtain ⟨len, hl⟩ : ∃ len, len = a.length := ⟨_, rfl⟩
  rw [← hl] at Hp HR ⊢
  have Ha := Lib.hid hl
  clear hv hp hl
  go_enter Tryd.func41, Tryd.ntmps41
  go_wp2_with fail
  go_loopg [3, 8] len (fun g sv iv wr => ∃ k : Nat, k + g = len ∧ iv = .int .i64 k ∧ sv = .int .i64 (sumL (a.take k) : Nat) ∧ sumL (a.take k) ≤ 4096 ∧ Below w.heap.size w wr)
  case atStart => exact ⟨0, by omega, rfl, rfl, by simp [sumL], Below.refl _ _⟩
  case round =>
    obtain ⟨k, hkg, rfl, rfl, hs, hB⟩ := hrel
    have hB0 := Lib.hid hB
    by_cases hlt : k < len
    · have hltI : (k : Int) < (len : Int) := by omega
      have hka : k < a.length := by have := Ha.out; omega
      obtain ⟨b, off, rfl, hb, hcap, hmax, hcell⟩ := Hp.out (by omega)
      obtain ⟨ecs, he, hl33, hat⟩ := hcell k a[k] (List.getElem?_eq_getElem hka)
      obtain ⟨rfl, hsz, h32⟩ := inp_cells he
      have hnx := sumL_next hka
      have hle := sumL_le a (k + 1)
      have hrg : wr.rangeAt b (off + k * 33) (.string a[k].1 :: bytV a[k].2.1) := fun j z hz => by
        have hj := (List.getElem?_eq_some_iff.1 hz).1
        rw [← hz, ← hat j (by omega)]
        exact hB.cell (p := ⟨b, off + k * 33 + j, none⟩) hb
      have Hrg := Lib.hid hrg
      have hbox := fun old => box_cell wr old a[k].1 a[k].2.1
      have Hone := Lib.hid (one_cells a[k].1 a[k].2.1)
      have hi0 : (Tryd.prog.info? 113).map (·.size) = some 33 := by kernel_rfl
      have Hi1 := Lib.hid (show (Tryd.prog.info? 113).map (·.size) = some (Value.string a[k].1 :: bytV a[k].2.1).length by rw [hi0, hl33])
      have Hi2 := Lib.hid (show (Tryd.prog.info? 113).map (·.size) = some ((Value.string a[k].1 :: bytV a[k].2.1).toArray).size by rw [hi0, List.size_toArray, hl33])
      have Hsz := Lib.hid (show 33 = ((Value.string a[k].1 :: bytV a[k].2.1).toArray).size by rw [List.size_toArray, hl33])
      have Hnx := Lib.hid hnx
      have Hle := Lib.hid hle
      have Hbl := Lib.hid (fun old => below_setRow (hB.alloc hB.size (.cells old 113)) hB.size (Value.string a[k].1 :: bytV a[k].2.1).toArray)
      obtain ⟨S, hS⟩ : ∃ S, S = sumL (a.take k) := ⟨_, rfl⟩
      rw [← hS] at hs Hnx ⊢
      generalize a[k].1 = z at *
      generalize bytV a[k].2.1 = l at *
      unfold maxLen at hmax
      clear hB hcell he hat hnx hle hrg hi0 h32 hl33
      by_cases hbig : 4096 < S + z.size
      · have hbI : (4096 : Int) < (S : Int) + (z.size : Int) := by omega
        go_wp2_with (first | (refine wpList_load_mid rfl 113 (.tmp 10) rfl b (off + k * 33) rfl (.string z :: l) _ Hrg.out Tryd.underlying113 rfl Hi1.out ?_) | (refine wpList_store_rowTo rfl 113 (.tmp 5) (.tmp 11) rfl rfl wr.heap.size (Value.string z :: l).toArray rfl rfl 113 _ (heap_alloc_new wr _) Hi2.out (by rw [← Hsz.out]; rfl) Hone.out ?_))
        go_ret
        refine ⟨?_, Hbl.out _⟩
        have : oddB a = true := by unfold oddB; rw [decide_eq_true (by have := Hnx.out; have := Hle.out; omega)]; rfl
        rw [this]; rfl
      · have hbI : ¬ (4096 : Int) < (S : Int) + (z.size : Int) := by omega
        go_wp2_with (first | (refine wpList_load_mid rfl 113 (.tmp 10) rfl b (off + k * 33) rfl (.string z :: l) _ Hrg.out Tryd.underlying113 rfl Hi1.out ?_) | (refine wpList_store_rowTo rfl 113 (.tmp 5) (.tmp 11) rfl rfl wr.heap.size (Value.string z :: l).toArray rfl rfl 113 _ (heap_alloc_new wr _) Hi2.out (by rw [← Hsz.out]; rfl) Hone.out ?_))
        go_roundg (gk - 1)
        case measure => omega
        case rel => exact ⟨k + 1, by omega, by go_num, by rw [Hnx.out]; go_num, by rw [Hnx.out]; omega, Hbl.out _⟩
    · have hnI : ¬ (k : Int) < (len : Int) := by omega
      have hsa : sumL a ≤ 4096 := by
        rw [List.take_of_length_le (by have := Ha.out; omega)] at hs; exact hs
      have Hsa := Lib.hid hsa
      by_cases h60 : 60 < len
      · have h60I : (60 : Int) < (len : Int) := by omega
        go_wp2_with fail
        go_ret
        refine ⟨?_, hB⟩
        have : oddB a = true := by unfold oddB; rw [decide_eq_true (show 60 < a.length by have := Ha.out; omega)]; simp
        rw [this]; rfl
      · have h60I : ¬ (60 : Int) < (len : Int) := by omega
        have H1 := Lib.hid (HR.out hsa wr hB)
        have Hres : Hid (oddB a = !(risB a)) := Lib.hid (by unfold oddB; rw [decide_eq_false (show ¬ 4096 < sumL a by omega), decide_eq_false (show ¬ 60 < a.length by have := Ha.out; omega)]; rfl)
        clear hsa
        generalize risB a = rb at *
        go_wp2_with fail
        refine H1.out.mono ?_
        rintro e w1 ⟨rfl, hB1⟩
        have hb7 := hB0.out.trans (hB1.mono hB0.out.size)
        go_wp2_with fail
        go_ret
        exact ⟨by rw [Hres.out]; rfl, hb7⟩
end Go.Proofs.YtdhaanaenklleaaDoor
