/- Opening of arguments of whatever plain type: a text, a number, a truth, a row of bytes, a struct of such, a list of such; piece by piece. -/
import Derived.WalkKit
import Derived.ProofKit
import Derived.Below
import Derived.OneCell
import Derived.SizedLaws
import Derived.Lib.Hide
import Derived.SliceStrings
import Derived.Lib.Strings
import Derived.OpenShut
import Derived.Deep.Slices
namespace Go.Proofs.Ytbdlmdmbaajcmaa
open Go.RowKit
set_option linter.unusedVariables false

def Opens (P : Program) (W : World) (t : TypeId) {X : Type} (R : X → List Value → Prop) : Prop :=
  ∀ (H : Type) (enc : TypeId × Value → H) (base fuel : Nat) (cs : List Value) (d : DataW H) (p : List MemPlace),
    DataW.trod enc P W base (fun _ => true) true fuel t cs = some (d, p) → (∀ n ∈ d.weights P t, n ≤ 140737488351232) → (∀ x ∈ p, x.block < W.heap.size) → ∃ x, R x cs
def strR (s : ByteArray) (cs : List Value) : Prop := cs = [.string s] ∧ s.size ≤ 140737488351232
def intR (k : IntKind) (n : Int) (cs : List Value) : Prop := cs = [.int k n] ∧ (Lit.int k n).wf = true
def boolR (b : Bool) (cs : List Value) : Prop := cs = [.bool b]
theorem opens_str {P : Program} {W : World} {t : TypeId} (ht : P.underlying t = some .string) : Opens P W t strR := by
  intro H enc base fuel cs d p h hw hp
  obtain ⟨s, rfl, hx, _⟩ := DataW.trod_string ht h
  cases hx
  exact ⟨s, rfl, by rw [Lib.size_eq]; exact hw _ (by simp [DataW.weights])⟩
theorem opens_int {P : Program} {W : World} {t : TypeId} {k : IntKind} (ht : P.underlying t = some (.int k)) : Opens P W t (intR k) := by
  intro H enc base fuel cs d p h hw hp
  obtain ⟨n, rfl, hx, hn⟩ := DataW.trod_int ht h
  exact ⟨n, rfl, hn⟩
theorem opens_bool {P : Program} {W : World} {t : TypeId} (ht : P.underlying t = some .bool) : Opens P W t boolR := by
  intro H enc base fuel cs d p h hw hp
  obtain ⟨b, rfl, hx⟩ := DataW.trod_bool ht h
  exact ⟨b, rfl⟩
/-- A row of n bytes. -/
def bytR (n : Nat) (l : List UInt8) (cs : List Value) : Prop := cs = l.map (fun (b : UInt8) => Value.int .u8 (b.toNat : Int)) ∧ l.length = n
theorem opens_byt {P : Program} {W : World} {t e : TypeId} {n : Nat} (ht : P.underlying t = some (.array n e)) (he : P.underlying e = some (.int .u8)) (hce : P.cellsOf e = 1) (hct : P.cellsOf t = n) : Opens P W t (bytR n) := by
  intro H enc base fuel cs d p h hw hp
  obtain ⟨xs, m, _, _, hl, hxl, hat⟩ := DataW.trod_array ht h
  rw [hct] at hl
  have hcell : ∀ i, i < n → ∃ b : UInt8, cs[i]? = some (.int .u8 (b.toNat : Int)) := fun i hi => by
    have h1 := hat i hi
    rw [hce, Nat.mul_one, List.getElem?_eq_getElem (by omega)] at h1
    obtain ⟨z, hz, _, hwf⟩ := DataW.trod_int he h1
    have hw2 : (decide (IntKind.u8.min ≤ z) && decide (z ≤ IntKind.u8.max)) = true := hwf
    rw [show IntKind.u8.min = 0 from rfl, show IntKind.u8.max = 255 from rfl, Bool.and_eq_true, decide_eq_true_iff, decide_eq_true_iff] at hw2
    have h2 := congrArg (·[0]?) hz
    simp only [List.getElem?_take_of_lt (show 0 < 1 by decide), List.getElem?_drop, Nat.add_zero, List.getElem?_cons_zero] at h2
    refine ⟨UInt8.ofNat z.toNat, ?_⟩
    rw [h2]
    have : (UInt8.ofNat z.toNat).toNat = z.toNat := by
      rw [UInt8.toNat_ofNat']; omega
    rw [this, Int.toNat_of_nonneg hw2.1]
  obtain ⟨f, hf⟩ := Go.Deep.choose_lt hcell
  refine ⟨(List.range n).map f, ?_, by simp⟩
  apply List.ext_getElem?
  intro i
  by_cases hi : i < n
  · rw [hf i hi]
    simp [hi]
  · rw [List.getElem?_eq_none (by omega), List.getElem?_eq_none (by simp; omega)]

/-! ### Structs -/
def nilR (_ : Unit) (cs : List Value) : Prop := cs = []
def consR {X Y : Type} (R : X → List Value → Prop) (S : Y → List Value → Prop) (x : X × Y) (cs : List Value) : Prop := ∃ a b, cs = a ++ b ∧ R x.1 a ∧ S x.2 b
def OpensF (P : Program) (W : World) (N : Nat) (fs : List Field) (o : Nat) {X : Type} (S : X → List Value → Prop) : Prop :=
  ∀ (H : Type) (enc : TypeId × Value → H) (base n : Nat) (cs : List Value) (ys : List (DataW H × List MemPlace)), cs.length = N → ys.length = fs.length →
    (∀ (j : Nat) (f : Field), fs[j]? = some f → DataW.trod enc P W base (fun _ => true) true n f.type ((cs.drop f.offset).take (P.cellsOf f.type)) = ys[j]?) →
    (∀ m ∈ DataW.weightsEach P (fs.map (·.type)) (ys.map (·.1)), m ≤ 140737488351232) → (∀ x ∈ ys.flatMap (·.2), x.block < W.heap.size) → ∃ x, S x (cs.drop o)
theorem opensF_nil {P : Program} {W : World} {N : Nat} : OpensF P W N [] N nilR := by
  intro H enc base n cs ys hl _ _ _ _
  exact ⟨(), List.drop_eq_nil_of_le (by omega)⟩
theorem opensF_cons {P : Program} {W : World} {N : Nat} {f : Field} {fs : List Field} {o k : Nat} {X Y : Type} {R : X → List Value → Prop} {S : Y → List Value → Prop}
    (ho : f.offset = o) (hk : P.cellsOf f.type = k) (h : Opens P W f.type R) (hs : OpensF P W N fs (o + k) S) : OpensF P W N (f :: fs) o (consR R S) := by
  intro H enc base n cs ys hl hyl hat hw hp
  match ys, hyl with
  | y :: ys, hyl =>
    have h0 := hat 0 f rfl
    rw [ho, hk] at h0
    have h1 : DataW.trod enc P W base (fun _ => true) true n f.type ((cs.drop o).take k) = some (y.1, y.2) := h0
    have hw' : ∀ m, m ∈ y.1.weights P f.type ∨ m ∈ DataW.weightsEach P (fs.map (·.type)) (ys.map (·.1)) → m ≤ 140737488351232 := fun m hm => hw m (by
      simp only [List.map_cons, DataW.weightsEach, List.mem_append]; exact hm)
    have hp' : ∀ x, x ∈ y.2 ∨ x ∈ ys.flatMap (·.2) → x.block < W.heap.size := fun x hx => hp x (by
      rw [List.flatMap_cons, List.mem_append]; exact hx)
    obtain ⟨x, hx⟩ := h H enc base n _ _ _ h1 (fun m hm => hw' m (.inl hm)) (fun z hz => hp' z (.inl hz))
    obtain ⟨z, hz⟩ := hs H enc base n cs ys hl (by simpa using hyl) (fun j g hg => by
      have := hat (j + 1) g (by simpa using hg)
      simpa using this) (fun m hm => hw' m (.inr hm)) (fun q hq => hp' q (.inr hq))
    refine ⟨(x, z), (cs.drop o).take k, cs.drop (o + k), ?_, hx, hz⟩
    rw [← List.drop_drop, List.take_append_drop]
theorem opens_struct {P : Program} {W : World} {t : TypeId} {fs : Array Field} {N : Nat} {X : Type} {S : X → List Value → Prop} (ht : P.underlying t = some (.struct fs)) (hN : P.cellsOf t = N) (h : OpensF P W N fs.toList 0 S) : Opens P W t S := by
  intro H enc base fuel cs d p htr hw hp
  obtain ⟨xs, n, _, hx, hl, hxl, hat⟩ := DataW.trod_struct ht htr
  simp only [Prod.mk.injEq] at hx
  obtain ⟨rfl, rfl⟩ := hx
  have := h H enc base n cs xs (by omega) (by simpa using hxl) (fun j f hf => hat j f (by simpa using hf)) (fun m hm => hw m (by
    simp only [DataW.weights, ht]; exact hm)) hp
  simpa using this

/-! ### Lists -/
/-- A list of things of n cells each. -/
def Rows (W : World) (n : Nat) {X : Type} (R : X → List Value → Prop) (v : Value) (l : List X) : Prop :=
  ((∃ p cap, v = .slice p 0 cap) ∧ l = []) ∨
  ∃ b off cap, v = .slice (some ⟨b, off, none⟩) l.length cap ∧ 0 < l.length ∧ l.length ≤ cap ∧ cap ≤ maxLen ∧ b < W.heap.size ∧
    ∀ i x, l[i]? = some x → ∃ ecs, R x ecs ∧ ecs.length = n ∧ ∀ j, j < n → W.cell? ⟨b, off + i * n + j, none⟩ = ecs[j]?
def rowsR (W : World) (n : Nat) {X : Type} (R : X → List Value → Prop) (l : List X) (cs : List Value) : Prop := ∃ v, cs = [v] ∧ Rows W n R v l
theorem mem_weightsAll {H : Type} {P : Program} {e : TypeId} {d : DataW H} {m : Nat} : ∀ {l : List (DataW H)}, d ∈ l → m ∈ d.weights P e → m ∈ DataW.weightsAll P e l
  | a :: r, hd, hm => by
    simp only [DataW.weightsAll, List.mem_append]
    rcases List.mem_cons.1 hd with rfl | h
    · exact .inl hm
    · exact .inr (mem_weightsAll h hm)
theorem opens_list {P : Program} {W : World} {t e : TypeId} {n : Nat} {X : Type} [Inhabited X] {R : X → List Value → Prop} (ht : P.underlying t = some (.slice e)) (hc : P.cellsOf e = n) (hn : 0 < n) (h : Opens P W e R) : Opens P W t (rowsR W n R) := by
  intro H enc base fuel cs d p htr hw hp
  rcases Go.Deep.open_slice ht htr with ⟨rfl, _⟩ | ⟨a, len, cap, m, k, D, Pl, rfl, hb, hl, hm, hmm, hx, hi⟩
  · exact ⟨[], _, rfl, .inl ⟨⟨_, _, rfl⟩, rfl⟩⟩
  · simp only [Prod.mk.injEq] at hx
    obtain ⟨rfl, rfl⟩ := hx
    rw [hc] at hi hp
    have hlm : len ≤ m := by rw [hmm]; exact hl
    by_cases h0 : len = 0
    · subst h0; exact ⟨[], _, rfl, .inl ⟨⟨_, _, rfl⟩, rfl⟩⟩
    have hel : ∀ i, i < len → ∃ x, ∃ ecs, R x ecs ∧ ecs.length = n ∧ ∀ j, j < n → W.cell? (a.add (i * n + j)) = ecs[j]? := fun i hil => by
      obtain ⟨cs', hcs, htc⟩ := hi i (by omega)
      obtain ⟨_, hcl, hat⟩ := World.cells?_some hcs
      obtain ⟨x, hx⟩ := h H enc base k cs' _ _ htc (fun q hq => hw q (by
        simp only [DataW.weights, ht, List.mem_cons, List.mem_append]
        exact .inr (.inl (mem_weightsAll (List.mem_map.2 ⟨i, List.mem_range.2 hil, rfl⟩) hq)))) (fun z hz => hp z (List.mem_append_right _ (List.mem_flatMap.2 ⟨i, List.mem_range.2 (by omega), hz⟩)))
      refine ⟨x, cs', hx, hcl, fun j hj => ?_⟩
      have := hat j hj
      rw [Go.Deep.add_add] at this
      exact this
    obtain ⟨f, hf⟩ := Go.Deep.choose_lt hel
    obtain ⟨b, off, spot⟩ := a
    obtain ⟨ecs, _, hel0, hat0⟩ := hf 0 (by omega)
    have hc0 := hat0 0 hn
    rw [List.getElem?_eq_getElem (by omega)] at hc0
    have hspot : spot = none := by
      have := World.cell?_spot hc0
      simpa [Addr.add] using this
    subst hspot
    have hbl : b < W.heap.size := by
      have := World.block_lt_of_cell? W _ hc0
      simpa [Addr.add] using this
    refine ⟨(List.range len).map f, _, rfl, .inr ⟨b, off, cap, by simp, by simp; omega, by simpa using hl, hm, hbl, fun i x hix => ?_⟩⟩
    have hil : i < len := by
      have := (List.getElem?_eq_some_iff.1 hix).1
      simpa using this
    have hxi : x = f i := by
      rw [List.getElem?_map, List.getElem?_range hil] at hix
      exact (Option.some.inj hix).symm
    subst hxi
    obtain ⟨ecs, h1, h2, h3⟩ := hf i hil
    refine ⟨ecs, h1, h2, fun j hj => ?_⟩
    have := h3 j hj
    generalize hq : i * n + j = q at this
    by_cases hz : q = 0
    · rw [hz] at this
      have e1 : off + i * n + j = off := by omega
      rw [e1]
      simpa [Addr.add] using this
    · have e1 : off + i * n + j = off + q := by omega
      rw [e1]
      simpa [Addr.add, hz] using this
theorem Rows.below {W W' : World} {n : Nat} {X : Type} {R : X → List Value → Prop} {v : Value} {l : List X} (h : Rows W n R v l) (hB : Below W.heap.size W W') : Rows W' n R v l := by
  rcases h with h | ⟨b, off, cap, hv, h0, hl, hc, hb, hcell⟩
  · exact .inl h
  · refine .inr ⟨b, off, cap, hv, h0, hl, hc, Nat.lt_of_lt_of_le hb hB.size, fun i x hx => ?_⟩
    obtain ⟨ecs, h1, h2, h3⟩ := hcell i x hx
    exact ⟨ecs, h1, h2, fun j hj => by rw [hB.cell (p := ⟨b, off + i * n + j, none⟩) hb]; exact h3 j hj⟩
theorem Rows.shape {W : World} {n : Nat} {X : Type} {R : X → List Value → Prop} {v : Value} {l : List X} (h : Rows W n R v l) :
    ∃ p cap, v = .slice p l.length cap ∧ (0 < l.length → ∃ b off, p = some ⟨b, off, none⟩ ∧ b < W.heap.size ∧ l.length ≤ cap ∧ cap ≤ maxLen ∧ ∀ i x, l[i]? = some x → ∃ ecs, R x ecs ∧ ecs.length = n ∧ ∀ j, j < n → W.cell? ⟨b, off + i * n + j, none⟩ = ecs[j]?) := by
  rcases h with ⟨⟨p, cap, rfl⟩, rfl⟩ | ⟨b, off, cap, hv, h0, hl, hc, hb, hcell⟩
  · exact ⟨p, cap, rfl, fun h => by simp at h⟩
  · exact ⟨_, cap, hv, fun _ => ⟨b, off, rfl, hb, hl, hc, hcell⟩⟩
end Go.Proofs.Ytbdlmdmbaajcmaa
