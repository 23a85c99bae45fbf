/- Inputs and changes: their cells, their openings, and that they are held against each other by value. -/
import Derived.Test.YtdhaanaenklleaaDoorProg
import Derived.WalkSpells
import Derived.Test.YtdhaanaenklleaaDoorOp
import Derived.DeepKeys
namespace Go.Proofs.YtdhaanaenklleaaDoor
set_option linter.unusedVariables false
open Go.RowKit

abbrev Inp := ByteArray × (List UInt8 × Unit)
abbrev Chg := ByteArray × (Int × Unit)
abbrev inpR : Inp → List Value → Prop := consR strR (consR (bytR 32) nilR)
abbrev chgR : Chg → List Value → Prop := consR strR (consR (intR .i64) nilR)
def bytV (l : List UInt8) : List Value := l.map fun (b : UInt8) => Value.int .u8 (b.toNat : Int)
theorem inp_cells {a : Inp} {cs : List Value} (h : inpR a cs) : cs = .string a.1 :: bytV a.2.1 ∧ a.1.size ≤ 140737488351232 ∧ a.2.1.length = 32 := by
  obtain ⟨x, y, rfl, ⟨rfl, h1⟩, z, u, rfl, ⟨rfl, h2⟩, rfl⟩ := h
  exact ⟨by simp [bytV], h1, h2⟩
theorem chg_cells {a : Chg} {cs : List Value} (h : chgR a cs) : cs = [.string a.1, .int .i64 a.2.1] ∧ a.1.size ≤ 140737488351232 ∧ (Lit.int .i64 a.2.1).wf = true := by
  obtain ⟨x, y, rfl, ⟨rfl, h1⟩, z, u, rfl, ⟨rfl, h2⟩, rfl⟩ := h
  exact ⟨rfl, h1, h2⟩
theorem opens_inp (W : World) : Opens Tryd.prog W 113 inpR :=
  opens_struct Tryd.underlying113 (by kernel_rfl) (opensF_cons (k := 1) rfl (by kernel_rfl) (opens_str Tryd.underlying9) (opensF_cons (k := 32) rfl (by kernel_rfl) (opens_byt Tryd.underlying37 Tryd.underlying5 (by kernel_rfl) (by kernel_rfl)) opensF_nil))
theorem opens_inps (W : World) : Opens Tryd.prog W 70 (rowsR W 33 inpR) := opens_list Tryd.underlying70 (by kernel_rfl) (by decide) (opens_inp W)

/-! ### By value -/
theorem mapM_some {α β : Type} (f : α → Option β) (g : α → β) : ∀ is : List α, (∀ i ∈ is, f i = some (g i)) → is.mapM f = some (is.map g)
  | [], _ => rfl
  | i :: is, h => by
    rw [List.mapM_cons, h i (List.mem_cons_self), mapM_some f g is fun j hj => h j (List.mem_cons_of_mem _ hj)]
    rfl
def litsB (l : List UInt8) : List Lit := l.map fun (b : UInt8) => Lit.int .u8 (b.toNat : Int)
theorem litsB_inj {a b : List UInt8} (h : litsB a = litsB b) : a = b := by
  induction a generalizing b with
  | nil => cases b with
    | nil => rfl
    | cons y s => simp [litsB] at h
  | cons x r ih => cases b with
    | nil => simp [litsB] at h
    | cons y s =>
      simp only [litsB, List.map_cons, List.cons.injEq, Lit.int.injEq, true_and] at h
      rw [ih h.2, show x = y from UInt8.toNat_inj.1 (by omega)]
theorem bytV_len (l : List UInt8) : (bytV l).length = l.length := by simp [bytV]
theorem lits_byt (P : Program) (T e : TypeId) (n d : Nat) (hT : P.underlying T = some (.array n e)) (he : P.underlying e = some (.int .u8)) (hce : P.cellsOf e = 1) (hcT : P.cellsOf T = n) (l : List UInt8) (hl : l.length = n) :
    P.keyLits (d + 2) T (bytV l) = some (litsB l) := by
  have hm : (List.range n).mapM (fun i => P.keyLits (d + 1) e (((bytV l).drop (i * P.cellsOf e)).take (P.cellsOf e))) = some ((List.range n).map fun i => [Lit.int .u8 ((l.getD i 0).toNat : Int)]) := by
    refine mapM_some _ _ _ fun i hi => ?_
    have hi' : i < n := by simpa using hi
    have hc : ((bytV l).drop (i * P.cellsOf e)).take (P.cellsOf e) = [.int .u8 ((l.getD i 0).toNat : Int)] := by
      rw [hce, Nat.mul_one]
      apply List.ext_getElem?
      intro j
      rw [List.getElem?_take]
      by_cases hj : j < 1
      · obtain rfl : j = 0 := by omega
        have : i < l.length := by omega
        rw [if_pos hj, List.getElem?_drop, Nat.add_zero]
        simp [bytV, List.getD, this]
      · rw [if_neg hj, List.getElem?_eq_none (by simp; omega)]
    rw [hc]
    have hw : (Lit.int .u8 ((l.getD i 0).toNat : Int)).wf = true := by
      have h1 := (l.getD i 0).toNat_lt
      have h2 : IntKind.u8.min ≤ ((l.getD i 0).toNat : Int) := by rw [show IntKind.u8.min = 0 from rfl]; omega
      have h3 : ((l.getD i 0).toNat : Int) ≤ IntKind.u8.max := by rw [show IntKind.u8.max = 255 from rfl]; omega
      show (decide (IntKind.u8.min ≤ ((l.getD i 0).toNat : Int)) && decide (((l.getD i 0).toNat : Int) ≤ IntKind.u8.max)) = true
      rw [decide_eq_true h2, decide_eq_true h3]; rfl
    generalize (l.getD i 0).toNat = x at *
    simp only [Program.keyLits, he]
    rw [if_pos ⟨trivial, hw⟩]
  unfold Program.keyLits
  rw [hT]
  simp only [bytV_len, hl, hcT, if_true]
  rw [hm]
  simp only [Option.map_some, Option.some.injEq]
  apply List.ext_getElem?
  intro j
  have e : ((List.range n).map fun i => [Lit.int .u8 ((l.getD i 0).toNat : Int)]).flatten = (List.range n).map fun i => Lit.int .u8 ((l.getD i 0).toNat : Int) := by
    rw [← List.flatMap_def, ← List.map_eq_flatMap]
  rw [e]
  by_cases hj : j < n
  · have hj2 : j < l.length := by omega
    simp [litsB, hj, hj2, List.getD_eq_getElem?_getD]
  · rw [List.getElem?_eq_none (by simp; omega), List.getElem?_eq_none (by simp [litsB]; omega)]
theorem lits_inp {a : Inp} {cs : List Value} (h : inpR a cs) : Tryd.prog.keyLits 3 113 cs = some (Lit.string a.1.data.toList :: litsB a.2.1) := by
  obtain ⟨rfl, h1, h2⟩ := inp_cells h
  have hb := lits_byt Tryd.prog 37 5 32 0 Tryd.underlying37 Tryd.underlying5 (by kernel_rfl) (by kernel_rfl) a.2.1 h2
  have hs : Tryd.prog.keyLits 2 9 [.string a.1] = some [.string a.1.data.toList] := by
    simp only [Program.keyLits, Tryd.underlying9]
    rw [if_pos (by unfold maxLen; omega)]
  have hc : Tryd.prog.cellsOf 113 = 33 := by kernel_rfl
  have hc9 : Tryd.prog.cellsOf 9 = 1 := by kernel_rfl
  have hc37 : Tryd.prog.cellsOf 37 = 32 := by kernel_rfl
  unfold Program.keyLits
  rw [Tryd.underlying113]
  simp only [List.length_cons, bytV_len, h2, hc]
  rw [if_pos ⟨trivial, by kernel_rfl⟩]
  simp only [List.mapM_cons, List.mapM_nil, hc9, hc37, List.drop_zero, List.take_succ_cons, List.take_zero, hs, List.drop_succ_cons]
  rw [List.take_of_length_le (by rw [bytV_len, h2]; exact Nat.le_refl _), hb]
  simp
theorem lits_chg {a : Chg} {cs : List Value} (h : chgR a cs) : Tryd.prog.keyLits 2 77 cs = some [Lit.string a.1.data.toList, Lit.int .i64 a.2.1] := by
  obtain ⟨rfl, h1, h2⟩ := chg_cells h
  have hs : Tryd.prog.keyLits 1 9 [.string a.1] = some [.string a.1.data.toList] := by
    simp only [Program.keyLits, Tryd.underlying9]
    rw [if_pos (by unfold maxLen; omega)]
  have hi : Tryd.prog.keyLits 1 3 [.int .i64 a.2.1] = some [.int .i64 a.2.1] := by
    simp only [Program.keyLits, Tryd.underlying3]
    rw [if_pos ⟨trivial, h2⟩]
  have hc : Tryd.prog.cellsOf 77 = 2 := by kernel_rfl
  have hc9 : Tryd.prog.cellsOf 9 = 1 := by kernel_rfl
  have hc3 : Tryd.prog.cellsOf 3 = 1 := by kernel_rfl
  unfold Program.keyLits
  rw [Tryd.underlying77]
  simp only [List.length_cons, List.length_nil, hc]
  rw [if_pos ⟨trivial, by kernel_rfl⟩]
  simp only [List.mapM_cons, List.mapM_nil, hc9, hc3, List.drop_zero, List.take_succ_cons, List.take_zero, hs, List.drop_succ_cons, hi]
  rfl
theorem ba_of {a b : ByteArray} (h : a.data.toList = b.data.toList) : a = b := by
  cases a; cases b
  simp only [ByteArray.mk.injEq]
  exact Array.toList_inj.1 h
theorem eq_inp {a b : Inp} {x y : Array Value} (ha : inpR a x.toList) (hb : inpR b y.toList) (w : World) : (Op.equalIn 10000 113 (.agg x) (.agg y)).run Tryd.prog w = .ok (decide (a = b)) w := by
  have hf : ∀ {a : Inp} {x : Array Value}, inpR a x.toList → (Value.agg x).formed Tryd.prog 113 = true := fun {a x} h => by
    have hl := congrArg List.length (inp_cells h).1
    have h2 := (inp_cells h).2.2
    rw [List.length_cons, bytV_len, h2, Array.length_toList] at hl
    have hc : Tryd.prog.cellsOf 113 = 33 := by kernel_rfl
    simp [Value.formed, Tryd.underlying113, hl, hc]
  obtain ⟨r, hr, hiff⟩ := run_equalIn_deep (P := Tryd.prog) 9997 3 113 (by kernel_rfl) w 3 3 _ _ _ _ (hf ha) (hf hb) (lits_inp ha) (lits_inp hb)
  have : r = decide (a = b) := by
    rw [Bool.eq_iff_iff, hiff, decide_eq_true_iff]
    obtain ⟨a1, a2, ⟨⟩⟩ := a
    obtain ⟨b1, b2, ⟨⟩⟩ := b
    constructor
    · intro h
      simp only [List.cons.injEq, Lit.string.injEq] at h
      rw [ba_of h.1, litsB_inj h.2]
    · intro h; rw [h]
  rw [← this]
  exact hr
theorem eq_chg {a b : Chg} {x y : Array Value} (ha : chgR a x.toList) (hb : chgR b y.toList) (w : World) : (Op.equalIn 10000 77 (.agg x) (.agg y)).run Tryd.prog w = .ok (decide (a = b)) w := by
  have hf : ∀ {a : Chg} {x : Array Value}, chgR a x.toList → (Value.agg x).formed Tryd.prog 77 = true := fun {a x} h => by
    have hl := congrArg List.length (chg_cells h).1
    rw [Array.length_toList] at hl
    have hc : Tryd.prog.cellsOf 77 = 2 := by kernel_rfl
    simp at hl
    simp [Value.formed, Tryd.underlying77, hl, hc]
  obtain ⟨r, hr, hiff⟩ := run_equalIn_deep (P := Tryd.prog) 9998 2 77 (by kernel_rfl) w 2 2 _ _ _ _ (hf ha) (hf hb) (lits_chg ha) (lits_chg hb)
  have : r = decide (a = b) := by
    rw [Bool.eq_iff_iff, hiff, decide_eq_true_iff]
    obtain ⟨a1, a2, ⟨⟩⟩ := a
    obtain ⟨b1, b2, ⟨⟩⟩ := b
    constructor
    · intro h
      simp only [List.cons.injEq, Lit.string.injEq, Lit.int.injEq, true_and, and_true] at h
      rw [ba_of h.1, h.2]
    · intro h
      cases h; rfl
  rw [← this]
  exact hr
theorem eq_id {a b : List UInt8} (ha : a.length = 32) (hb : b.length = 32) (w : World) : (Op.equalIn 10000 37 (.agg (bytV a).toArray) (.agg (bytV b).toArray)).run Tryd.prog w = .ok (decide (a = b)) w := by
  have hc : Tryd.prog.cellsOf 37 = 32 := by kernel_rfl
  have hf : ∀ l : List UInt8, l.length = 32 → (Value.agg (bytV l).toArray).formed Tryd.prog 37 = true := fun l h => by simp [Value.formed, Tryd.underlying37, hc, bytV_len, h]
  have hk : ∀ l : List UInt8, l.length = 32 → Tryd.prog.keyLits 2 37 (bytV l) = some (litsB l) := fun l h => lits_byt Tryd.prog 37 5 32 0 Tryd.underlying37 Tryd.underlying5 (by kernel_rfl) (by kernel_rfl) l h
  obtain ⟨r, hr, hiff⟩ := run_equalIn_deep (P := Tryd.prog) 9998 2 37 (by kernel_rfl) w 2 2 _ _ _ _ (hf a ha) (hf b hb) (hk a ha) (hk b hb)
  have : r = decide (a = b) := by
    rw [Bool.eq_iff_iff, hiff, decide_eq_true_iff]
    exact ⟨litsB_inj, fun h => by rw [h]⟩
  rw [← this]
  exact hr
end Go.Proofs.YtdhaanaenklleaaDoor
