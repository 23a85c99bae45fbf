/- Two rows of bytes, held against each other by value. -/
import Derived.Test.YtbenegkhekofmaaDoorMc
import Derived.DeepKeys
namespace Go.Proofs.YtbenegkhekofmaaDoor
set_option linter.unusedVariables false
open Go.RowKit

theorem mapM_some {α β : Type} (f : α → Option β) (g : α → β) : ∀ is : List α, (∀ i ∈ is, f i = some (g i)) → is.mapM f = some (is.map g)
  | [], _ => rfl
  | i :: is, h => by
    rw [List.mapM_cons, h i (List.mem_cons_self), mapM_some f g is fun j hj => h j (List.mem_cons_of_mem _ hj)]
    rfl
def litsN (l : List Nat) : List Lit := l.map fun (n : Nat) => Lit.int .u8 (n : Int)
theorem litsN_inj {a b : List Nat} (h : litsN a = litsN b) : a = b := by
  induction a generalizing b with
  | nil => cases b with
    | nil => rfl
    | cons y s => simp [litsN] at h
  | cons x r ih => cases b with
    | nil => simp [litsN] at h
    | cons y s =>
      simp only [litsN, List.map_cons, List.cons.injEq, Lit.int.injEq, true_and] at h
      rw [ih h.2, show x = y by omega]
theorem lits_of (P : Program) (T e : TypeId) (n : Nat) (hT : P.underlying T = some (.array n e)) (he : P.underlying e = some (.int .u8)) (hce : P.cellsOf e = 1) (hcT : P.cellsOf T = n) (l : List Nat) (hl : l.length = n) (hs : Small 256 l) :
    P.keyLits 2 T (ints .u8 l).toList = some (litsN l) := by
  have hlen : (ints .u8 l).toList.length = n := by rw [Array.length_toList, ints_size, hl]
  have hm : (List.range n).mapM (fun i => P.keyLits 1 e (((ints .u8 l).toList.drop (i * P.cellsOf e)).take (P.cellsOf e))) = some ((List.range n).map fun i => [Lit.int .u8 ((l.getD i 0 : Nat) : Int)]) := by
    refine mapM_some _ _ _ fun i hi => ?_
    have hi' : i < n := by simpa using hi
    have hc : ((ints .u8 l).toList.drop (i * P.cellsOf e)).take (P.cellsOf e) = [.int .u8 ((l.getD i 0 : Nat) : Int)] := by
      rw [hce, Nat.mul_one]
      apply List.ext_getElem?
      intro j
      rw [List.getElem?_take]
      by_cases hj : j < 1
      · obtain rfl : j = 0 := by omega
        rw [if_pos hj, List.getElem?_drop, Nat.add_zero, Array.getElem?_toList, ints_get _ _ _ (by omega)]
        rfl
      · rw [if_neg hj, List.getElem?_eq_none (by simp; omega)]
    rw [hc]
    have hw : (Lit.int .u8 ((l.getD i 0 : Nat) : Int)).wf = true := by
      have h1 := hs i
      have h2 : IntKind.u8.min ≤ ((l.getD i 0 : Nat) : Int) := by rw [show IntKind.u8.min = 0 from rfl]; omega
      have h3 : ((l.getD i 0 : Nat) : Int) ≤ IntKind.u8.max := by rw [show IntKind.u8.max = 255 from rfl]; omega
      show (decide (IntKind.u8.min ≤ ((l.getD i 0 : Nat) : Int)) && decide (((l.getD i 0 : Nat) : Int) ≤ IntKind.u8.max)) = true
      rw [decide_eq_true h2, decide_eq_true h3]; rfl
    generalize l.getD i 0 = x at *
    simp only [Program.keyLits, he]
    rw [if_pos ⟨trivial, hw⟩]
  unfold Program.keyLits
  rw [hT]
  simp only [hlen, hcT, if_true]
  rw [hm]
  simp only [Option.map_some, Option.some.injEq]
  apply List.ext_getElem?
  intro j
  have e : ((List.range n).map fun i => [Lit.int .u8 ((l.getD i 0 : Nat) : Int)]).flatten = (List.range n).map fun i => Lit.int .u8 ((l.getD i 0 : Nat) : Int) := by
    rw [← List.flatMap_def, ← List.map_eq_flatMap]
  rw [e]
  by_cases hj : j < n
  · have hj2 : j < l.length := by omega
    simp [litsN, hj, hj2, List.getD_eq_getElem?_getD]
  · rw [List.getElem?_eq_none (by simp; omega), List.getElem?_eq_none (by simp [litsN]; omega)]
theorem eq_rows {P : Program} (T e : TypeId) (n : Nat) (hT : P.underlying T = some (.array n e)) (he : P.underlying e = some (.int .u8)) (hce : P.cellsOf e = 1) (hcT : P.cellsOf T = n) (hk : P.keyTypeAt 2 T = true)
    (a b : List Nat) (ha : a.length = n) (hb : b.length = n) (hsa : Small 256 a) (hsb : Small 256 b) (w : World) :
    (Op.equalIn 10000 T (.agg (ints .u8 a)) (.agg (ints .u8 b))).run P w = .ok (decide (a = b)) w := by
  have hf : ∀ l : List Nat, l.length = n → (Value.agg (ints .u8 l)).formed P T = true := fun l h => by simp [Value.formed, hT, ints_size, hcT, h]
  obtain ⟨r, hr, hiff⟩ := run_equalIn_deep (P := P) 9998 2 T hk w 2 2 _ _ _ _ (hf a ha) (hf b hb) (lits_of P T e n hT he hce hcT a ha hsa) (lits_of P T e n hT he hce hcT b hb hsb)
  have : r = decide (a = b) := by
    rw [Bool.eq_iff_iff, hiff, decide_eq_true_iff]
    exact ⟨litsN_inj, fun h => by rw [h]⟩
  rw [← this]
  exact hr
end Go.Proofs.YtbenegkhekofmaaDoor
