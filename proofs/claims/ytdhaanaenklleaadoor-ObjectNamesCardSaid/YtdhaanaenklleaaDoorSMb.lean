/- Plain lemmas: a block's words, its rounds. -/
import Derived.Test.YtdhaanaenklleaaDoorSMa
import Derived.Test.YtdhaanaenklleaaDoorSKw
namespace Go.Proofs.YtdhaanaenklleaaDoor.S
open Go.RowKit

def pw (B : List Nat) (i : Nat) : Nat → Nat
  | 0 => 0
  | k + 1 => pw B i k * 256 + B.getD (4 * i + k) 0
def pre (B : List Nat) (i : Nat) : List Nat := (List.range i).map fun j => pw B j 4
def wnext (l : List Nat) : Nat := (l.getD (l.length - 16) 0 + ss0 (l.getD (l.length - 15) 0) + l.getD (l.length - 7) 0 + ss1 (l.getD (l.length - 2) 0)) % 4294967296
def wext (l : List Nat) : Nat → List Nat
  | 0 => l
  | n + 1 => wext l n ++ [wnext (wext l n)]
def wordsL (B : List Nat) : List Nat := wext (pre B 16) 48
def Small (m : Nat) (l : List Nat) : Prop := ∀ j, l.getD j 0 < m
theorem pre_len (B : List Nat) (i : Nat) : (pre B i).length = i := by simp [pre]
theorem pre_succ (B : List Nat) (i : Nat) : pre B (i + 1) = pre B i ++ [pw B i 4] := by simp [pre, List.range_succ]
theorem wext_len (l : List Nat) (n : Nat) : (wext l n).length = l.length + n := by
  induction n with
  | zero => rfl
  | succ n ih => simp only [wext, List.length_append, ih, List.length_cons, List.length_nil]; omega
theorem wordsL_len (B : List Nat) : (wordsL B).length = 64 := by rw [wordsL, wext_len, pre_len]
theorem pw_lt {B : List Nat} (h : Small 256 B) (i k : Nat) : pw B i k < 256 ^ k := by
  induction k with
  | zero => simp [pw]
  | succ k ih =>
    have := h (4 * i + k)
    rw [pw, Nat.pow_succ]
    omega
theorem pw_lt4 {B : List Nat} (h : Small 256 B) (i : Nat) {k : Nat} (hk : k < 4) : pw B i k < 16777216 :=
  Nat.lt_of_lt_of_le (pw_lt h i k) (Nat.pow_le_pow_right (n := 256) (by omega) (show k ≤ 3 by omega))
theorem getD_snoc (l : List Nat) (v j : Nat) : (l ++ [v]).getD j 0 = if l.length = j then v else l.getD j 0 := by
  simp only [List.getD_eq_getElem?_getD]
  by_cases e : l.length = j
  · subst e; simp
  · rw [if_neg e]
    by_cases e2 : j < l.length
    · rw [List.getElem?_append_left e2]
    · rw [List.getElem?_eq_none (by simp; omega), List.getElem?_eq_none (by omega)]
theorem Small.snoc {m v : Nat} {l : List Nat} (h : Small m l) (hv : v < m) : Small m (l ++ [v]) := fun j => by
  rw [getD_snoc]; split
  · exact hv
  · exact h j
theorem pre_small {B : List Nat} (h : Small 256 B) (i : Nat) : Small 4294967296 (pre B i) := by
  induction i with
  | zero => intro j; simp [pre]
  | succ i ih => rw [pre_succ]; exact ih.snoc (pw_lt h i 4)
theorem wext_small {l : List Nat} (h : Small 4294967296 l) (n : Nat) : Small 4294967296 (wext l n) := by
  induction n with
  | zero => exact h
  | succ n ih => exact ih.snoc (Nat.mod_lt _ (by decide))
theorem wordsL_small {B : List Nat} (h : Small 256 B) : Small 4294967296 (wordsL B) := wext_small (pre_small h 16) 48
theorem Arr.more {w : World} {b t n : Nat} {k : IntKind} {l : List Nat} (h : Arr w b t n k l) : Arr w b t n k (l ++ [0]) := by
  obtain ⟨cur, h1, h2, h3⟩ := h
  refine ⟨cur, h1, h2, fun j hj => ?_⟩
  rw [h3 j hj, getD_snoc]
  split
  · rename_i e
    subst e
    simp
  · rfl
theorem Arr.last {w : World} {b t n : Nat} {k : IntKind} {l : List Nat} {u : Nat} (h : Arr w b t n k (l ++ [u])) (hi : l.length < n) (v : Nat) : Arr (w.setCell ⟨b, l.length, none⟩ (.int k (v : Int))) b t n k (l ++ [v]) :=
  h.set hi v _ fun j hj => by
    rw [getD_snoc, getD_snoc]
    split <;> rfl
theorem or_small (a b : Nat) (ha : a < 16777216) (hb : b < 256) : bits .or .u32 ((a : Int) * 256) (b : Int) = ((a * 256 + b : Nat) : Int) := by
  rw [show (a : Int) * 256 = ((a * 256 : Nat) : Int) by omega, u32_or_nat _ _ (by omega) (by omega)]
  have : a * 256 = a <<< 8 := by rw [Nat.shiftLeft_eq]
  rw [this, Nat.shiftLeft_add_eq_or_of_lt (by simpa using hb)]
end Go.Proofs.YtdhaanaenklleaaDoor.S
