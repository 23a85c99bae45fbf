/- Rows of whole numbers in memory. -/
import Derived.Test.YtdhaanaenklleaaDoorKt
import Derived.Laws.Rows
import Derived.Laws.Tables
namespace Go.Proofs.YtdhaanaenklleaaDoor.S
open Go.RowKit

/-- Numbers as a row of cells. -/
def ints (k : IntKind) (l : List Nat) : Array Value := (l.map fun (n : Nat) => Value.int k (n : Int)).toArray
theorem ints_size (k : IntKind) (l : List Nat) : (ints k l).size = l.length := by simp [ints]
theorem ints_one (k : IntKind) (l : List Nat) : (ints k l).all (·.oneCell') = true := by
  rw [Array.all_eq_true_iff_forall_mem]
  intro v hv
  simp only [ints, List.mem_toArray, List.mem_map] at hv
  obtain ⟨n, _, rfl⟩ := hv
  rfl
theorem ints_get (k : IntKind) (l : List Nat) (j : Nat) (h : j < l.length) : (ints k l)[j]? = some (.int k ((l.getD j 0 : Nat) : Int)) := by
  simp [ints, List.getElem?_map, List.getElem?_eq_getElem h, List.getD_eq_getElem?_getD]

/-- A block holds n numbers, those of the list first, then noughts. -/
def Arr (w : World) (b : Nat) (t : TypeId) (n : Nat) (k : IntKind) (l : List Nat) : Prop :=
  ∃ cur, w.heap[b]? = some (.cells cur t (0, 0)) ∧ cur.size = n ∧ ∀ j, j < n → cur[j]? = some (.int k ((l.getD j 0 : Nat) : Int))
variable {w : World} {b t n : Nat} {k : IntKind} {l : List Nat}
theorem Arr.cell (h : Arr w b t n k l) (j : Nat) (hj : j < n) : w.cell? ⟨b, j, none⟩ = some (.int k ((l.getD j 0 : Nat) : Int)) := by
  obtain ⟨cur, h1, h2, h3⟩ := h
  exact (block_cell h1 j).trans (h3 j hj)
theorem Arr.free (h : Arr w b t n k l) (j : Nat) : w.frozen? ⟨b, j, none⟩ = false := by
  obtain ⟨cur, h1, h2, h3⟩ := h
  exact block_free h1 j
theorem Arr.set (h : Arr w b t n k l) {i : Nat} (hi : i < n) (v : Nat) (l' : List Nat) (hl : ∀ j, j < n → l'.getD j 0 = if i = j then v else l.getD j 0) :
    Arr (w.setCell ⟨b, i, none⟩ (.int k (v : Int))) b t n k l' := by
  obtain ⟨cur, h1, h2, h3⟩ := h
  refine ⟨_, block_set h1, by simpa using h2, fun j hj => ?_⟩
  rw [Array.getElem?_setIfInBounds, hl j hj]
  by_cases e : i = j
  · subst e; rw [if_pos rfl, if_pos (by omega), if_pos rfl]
  · rw [if_neg e, if_neg e, h3 j hj]
theorem Arr.snoc (h : Arr w b t n k l) (hi : l.length < n) (v : Nat) : Arr (w.setCell ⟨b, l.length, none⟩ (.int k (v : Int))) b t n k (l ++ [v]) :=
  h.set hi v _ fun j hj => by
    simp only [List.getD_eq_getElem?_getD]
    by_cases e : l.length = j
    · subst e; simp
    · rw [if_neg e]
      by_cases e2 : j < l.length
      · rw [List.getElem?_append_left e2]
      · rw [List.getElem?_eq_none (by simp; omega), List.getElem?_eq_none (by omega)]
theorem Arr.below {w' : World} (h : Arr w b t n k l) (hB : Below w.heap.size w w') : Arr w' b t n k l := by
  obtain ⟨cur, h1, h2, h3⟩ := h
  exact ⟨cur, by rw [hB.block b (lt_of_block h1)]; exact h1, h2, h3⟩
theorem Arr.heap {w' : World} (h : Arr w b t n k l) (hB : w'.heap[b]? = w.heap[b]?) : Arr w' b t n k l := by
  obtain ⟨cur, h1, h2, h3⟩ := h
  exact ⟨cur, by rw [hB]; exact h1, h2, h3⟩
theorem Arr.lt (h : Arr w b t n k l) : b < w.heap.size := by
  obtain ⟨cur, h1, _, _⟩ := h
  exact lt_of_block h1
theorem Arr.other (h : Arr w b t n k l) (a : Addr) (v : Value) (hne : b ≠ a.block) : Arr (w.setCell a v) b t n k l := h.heap (heap_setCell_other w a b v hne)
theorem Arr.whole (h : Arr w b t n k l) (hl : l.length = n) : w.heap[b]? = some (.cells (ints k l) t (0, 0)) := by
  obtain ⟨cur, h1, h2, h3⟩ := h
  rw [h1]
  have : cur = ints k l := by
    apply Array.ext (by rw [ints_size]; omega)
    intro i hi1 hi2
    have e1 := h3 i (by omega)
    have e2 := ints_get k l i (by omega)
    rw [Array.getElem?_eq_getElem hi1] at e1
    rw [Array.getElem?_eq_getElem hi2] at e2
    exact Option.some.inj (e1.trans e2.symm)
  rw [this]
theorem arr_ints (h : w.heap[b]? = some (.cells (ints k l) t (0, 0))) (hl : l.length = n) : Arr w b t n k l :=
  ⟨_, h, by rw [ints_size, hl], fun j hj => ints_get k l j (by omega)⟩
theorem arr_zero {cur : Array Value} (h : w.heap[b]? = some (.cells cur t (0, 0))) (hc : cur = Array.replicate n (.int k 0)) : Arr w b t n k [] :=
  ⟨_, h, by rw [hc]; simp, fun j hj => by rw [hc]; simp [hj]⟩

def K64 : List Nat := [1116352408, 1899447441, 3049323471, 3921009573, 961987163, 1508970993, 2453635748, 2870763221, 3624381080, 310598401, 607225278, 1426881987, 1925078388, 2162078206, 2614888103, 3248222580, 3835390401, 4022224774, 264347078, 604807628, 770255983, 1249150122, 1555081692, 1996064986, 2554220882, 2821834349, 2952996808, 3210313671, 3336571891, 3584528711, 113926993, 338241895, 666307205, 773529912, 1294757372, 1396182291, 1695183700, 1986661051, 2177026350, 2456956037, 2730485921, 2820302411, 3259730800, 3345764771, 3516065817, 3600352804, 4094571909, 275423344, 430227734, 506948616, 659060556, 883997877, 958139571, 1322822218, 1537002063, 1747873779, 1955562222, 2024104815, 2227730452, 2361852424, 2428436474, 2756734187, 3204031479, 3329325298]
theorem k64_len : K64.length = 64 := rfl
end Go.Proofs.YtdhaanaenklleaaDoor.S
