/- Walks: which of two lists' heads is first; the theory of changes. -/
import Derived.Test.YtdhaanaenklleaaDoorEb
import Derived.Test.YtdhaanaenklleaaDoorWi
import Derived.Test.YtdhaanaenklleaaDoorDa
namespace Go.Proofs.YtdhaanaenklleaaDoor
set_option linter.unusedVariables false
open Go.ChangeShapes Go.WideShapes Go.ChangeAt Go.RowKit

def MaxAt (w : World) : Prop := 1 < w.heap.size ∧ ∃ m : Int, w.cell? ⟨1, 0, none⟩ = some (.int .i64 m)
theorem MaxAt.below {w w' : World} (h : MaxAt w) (hB : Below w.heap.size w w') : MaxAt w' := by
  obtain ⟨h1, m, h2⟩ := h
  exact ⟨Nat.lt_of_lt_of_le h1 hB.size, m, (hB.cell (p := ⟨1, 0, none⟩) h1).trans h2⟩
def firstI : List Inp → List Inp → Int
  | [], _ => 1
  | _ :: _, [] => -1
  | f :: _, g :: _ => cmpP f.1 g.1
/-- A list's head, in memory. -/
theorem Rows.head {w : World} {v : Value} {f : Inp} {a : List Inp} (h : Rows w 33 inpR v (f :: a)) :
    ∃ b off cap, v = .slice (some ⟨b, off, none⟩) (a.length + 1) cap ∧ b < w.heap.size ∧ a.length + 1 ≤ cap ∧ cap ≤ 9223372036854775807 ∧ w.cell? ⟨b, off, none⟩ = some (.string f.1) ∧ w.rangeAt b (off + 1) (bytV f.2.1) ∧ f.2.1.length = 32 ∧ f.1.size ≤ 140737488351232 := by
  obtain ⟨p, cap, rfl, hp⟩ := h.shape
  obtain ⟨b, off, rfl, hb, hcap, hmax, hcell⟩ := hp (by simp)
  obtain ⟨ecs, he, hl, hat⟩ := hcell 0 f rfl
  obtain ⟨rfl, h1, h2⟩ := inp_cells he
  unfold maxLen at hmax
  refine ⟨b, off, cap, rfl, hb, hcap, by omega, ?_, ?_, h2, h1⟩
  · have := hat 0 (by decide)
    simpa using this
  · intro j z hz
    have hj := (List.getElem?_eq_some_iff.1 hz).1
    rw [bytV_len, h2] at hj
    have := hat (j + 1) (by omega)
    rw [List.getElem?_cons_succ, hz] at this
    rw [← this]
    congr 2
    omega
theorem Rows.empty {w : World} {n : Nat} {X : Type} {R : X → List Value → Prop} {v : Value} (h : Rows w n R v []) : ∃ p cap, v = .slice p 0 cap := by
  obtain ⟨p, cap, rfl, -⟩ := h.shape
  exact ⟨p, cap, rfl⟩
set_option maxHeartbeats 1000000 in
theorem first_any (v u : Value) (a b : List Inp) (w : World) (hM : MaxAt w) (hv : Rows w 33 inpR v a) (hu : Rows w 33 inpR u b) (hza : ∀ x ∈ a, x.1.size ≤ 1073741824) (hzb : ∀ x ∈ b, x.1.size ≤ 1073741824) :
    Calls Tryd.prog 70 #[v, u] w fun e w' => e = .returned (.int .i64 (firstI a b)) ∧ Below w.heap.size w w' := by
  cases a with
  | nil =>
    obtain ⟨p, cap, rfl⟩ := Rows.empty hv
    obtain ⟨q, cap2, rfl, -⟩ := hu.shape
    clear hv hu
    go_enter Tryd.func70, Tryd.ntmps70
    go_wp2_with fail
    go_ret
    exact ⟨rfl, Below.refl _ _⟩
  | cons f a =>
    obtain ⟨b1, o1, cap, rfl, hb1, hcap1, hmax1, hc1, -, -, -⟩ := Rows.head hv
    have hpos : (0 : Int) < ((a.length + 1 : Nat) : Int) := by omega
    have hpe : (((a.length + 1 : Nat) : Int) == 0) = false := beq_eq_false_iff_ne.2 (by omega)
    cases b with
    | nil =>
      obtain ⟨q, cap2, rfl⟩ := Rows.empty hu
      clear hv hu
      generalize a.length + 1 = la at *
      go_enter Tryd.func70, Tryd.ntmps70
      go_wp2_with fail
      go_ret
      exact ⟨rfl, Below.refl _ _⟩
    | cons g b =>
      obtain ⟨b2, o2, cap2, rfl, hb2, hcap2, hmax2, hc2, -, -, -⟩ := Rows.head hu
      have hposb : (0 : Int) < ((b.length + 1 : Nat) : Int) := by omega
      have hpeb : (((b.length + 1 : Nat) : Int) == 0) = false := beq_eq_false_iff_ne.2 (by omega)
      have hf := hza f List.mem_cons_self
      have hg := hzb g List.mem_cons_self
      have HL1 := Lib.hid (fun w1 (h1 : Below w.heap.size w w1) => (by have h := (h1.cell (p := ⟨b1, o1, none⟩) hb1).trans hc1; simp [go_sem, h] : (loadVar 9 ⟨b1, o1, none⟩).run Tryd.prog w1 = .ok (.string f.1) w1))
      have HL2 := Lib.hid (fun w1 (h1 : Below w.heap.size w w1) => (by have h := (h1.cell (p := ⟨b2, o2, none⟩) hb2).trans hc2; simp [go_sem, h] : (loadVar 9 ⟨b2, o2, none⟩).run Tryd.prog w1 = .ok (.string g.1) w1))
      have HC := Lib.hid (fun w1 (h1 : Below w.heap.size w w1) => (by obtain ⟨m, hm⟩ := (hM.below h1).2; exact (pcmp_any f.1 g.1 m w1 hm hf hg).mono (fun e w2 hh => (⟨hh.1, h1.trans (hh.2.mono h1.size)⟩ : e = .returned (.int .i64 (cmpP f.1 g.1)) ∧ Below w.heap.size w w2)) : Calls Tryd.prog 63 #[.string f.1, .string g.1] w1 fun e w2 => e = .returned (.int .i64 (cmpP f.1 g.1)) ∧ Below w.heap.size w w2))
      clear hv hu hM hza hzb hc1 hc2
      show Calls Tryd.prog 70 _ w fun e w' => e = .returned (.int .i64 (cmpP f.1 g.1)) ∧ Below w.heap.size w w'
      generalize cmpP f.1 g.1 = r at *
      generalize f.1 = x at *
      generalize g.1 = y at *
      generalize a.length + 1 = la at *
      generalize b.length + 1 = lb at *
      go_enter Tryd.func70, Tryd.ntmps70
      go_wp2_with fail
      refine wp_region_class (Below w.heap.size w) (by kernel_rfl) (by kernel_rfl) (Below.refl _ _).drew ?_
      repeat (go_big_quiet_step (first | (intro hh; with_reducible exact HC.out _ hh) | (intro _; rfl)))
      refine wpQuiet_load_at rfl 9 (.tmp 13) rfl ⟨b1, o1, none⟩ rfl (.string x) HL1.out ?_
      simp only [Act.put, List.setIfInBounds_toArray, List.set_cons_succ, List.set_cons_zero]
      repeat (go_big_quiet_step (first | (intro hh; with_reducible exact HC.out _ hh) | (intro _; rfl)))
      refine wpQuiet_load_at rfl 9 (.tmp 17) rfl ⟨b2, o2, none⟩ rfl (.string y) HL2.out ?_
      simp only [Act.put, List.setIfInBounds_toArray, List.set_cons_succ, List.set_cons_zero]
      repeat (go_big_quiet_step (first | (intro hh; with_reducible exact HC.out _ hh) | (intro _; rfl)))
      refine wpQuiet_nil ?_
      intro wq hBq
      go_wp2_with fail
      go_ret
      exact ⟨rfl, hBq⟩
end Go.Proofs.YtdhaanaenklleaaDoor
