/- Walks: whether a list rises; whether a list is odd. -/
import Derived.Test.YtdhaanaenklleaaDoorEc
namespace Go.Proofs.YtdhaanaenklleaaDoor
set_option linter.unusedVariables false
set_option linter.unusedSimpArgs false
open Go.ChangeShapes Go.WideShapes Go.ChangeAt Go.RowKit

def risB : List Inp → Bool
  | f :: g :: r => decide (cmpP f.1 g.1 < 0) && risB (g :: r)
  | _ => true
theorem ris_at : ∀ (l : List Inp), risB l = true ↔ ∀ k, ∀ h : k + 1 < l.length, cmpP (l[k]'(by omega)).1 l[k + 1].1 < 0
  | [] => by simp [risB]
  | [f] => by simp [risB]
  | f :: g :: r => by
    have ih := ris_at (g :: r)
    unfold risB
    rw [Bool.and_eq_true, decide_eq_true_iff, ih]
    constructor
    · rintro ⟨h1, h2⟩ k hk
      cases k with
      | zero => exact h1
      | succ k => exact h2 k (by simpa using hk)
    · intro h
      refine ⟨h 0 (by simp), fun k hk => ?_⟩
      have := h (k + 1) (by simpa using hk)
      simpa using this
/-- An element's path, in memory. -/
theorem Rows.path {w w1 : World} {b off : Nat} {cap : Nat} {a : List Inp} {k : Nat} (hk : k < a.length) (hb : b < w.heap.size) (hcell : ∀ i x, a[i]? = some x → ∃ ecs, inpR x ecs ∧ ecs.length = 33 ∧ ∀ j, j < 33 → w.cell? ⟨b, off + i * 33 + j, none⟩ = ecs[j]?) (hB : Below w.heap.size w w1) :
    (loadVar 9 ⟨b, off + k * 33, none⟩).run Tryd.prog w1 = .ok (.string a[k].1) w1 := by
  obtain ⟨ecs, he, hl, hat⟩ := hcell k a[k] (List.getElem?_eq_getElem hk)
  obtain ⟨rfl, h1, h2⟩ := inp_cells he
  have h := (hB.cell (p := ⟨b, off + k * 33 + 0, none⟩) hb).trans (hat 0 (by decide))
  simp at h
  simp [go_sem, h]
set_option maxRecDepth 100000 in
set_option maxHeartbeats 2000000 in
theorem rises_any (v : Value) (a : List Inp) (w : World) (hv : Rows w 33 inpR v a) (hza : ∀ x ∈ a, x.1.size ≤ 1073741824) :
    Calls Tryd.prog 69 #[v] w fun e w' => e = .returned (.bool (risB a)) ∧ Below w.heap.size w w' := by
  obtain ⟨p, cap, rfl, hp⟩ := hv.shape
  have Hp := Lib.hid hp
  obtain ⟨len, hl⟩ : ∃ len, len = a.length := ⟨_, rfl⟩
  rw [← hl] at Hp ⊢
  have Ha := Lib.hid hl
  have Hz := Lib.hid hza
  clear hv hp hl hza
  go_enter Tryd.func69, Tryd.ntmps69
  go_wp2_with fail
  go_loopg [3, 6] len (fun g _ iv wr => ∃ k : Nat, k + g = len ∧ iv = .int .i64 k ∧ (∀ j, ∀ h : j + 1 < a.length, j + 1 < k → cmpP (a[j]'(by omega)).1 a[j + 1].1 < 0) ∧ Below w.heap.size w wr)
  case atStart => exact ⟨0, by omega, rfl, fun j h hj => by omega, Below.refl _ _⟩
  case round =>
    obtain ⟨k, hkg, rfl, hno, hB⟩ := hrel
    have Hno := Lib.hid hno
    have hB0 := Lib.hid hB
    clear hno
    by_cases hlt : k < len
    · have hltI : (k : Int) < (len : Int) := by omega
      have hka : k < a.length := by have := Ha.out; omega
      cases k with
      | zero =>
        clear hB
        go_wp2_with fail
        refine wp_region_class (Below wr.heap.size wr) (by kernel_rfl) (by kernel_rfl) (Below.refl _ _).drew ?_
        repeat (go_big_quiet_step (first | (intro _; rfl)))
        refine wpQuiet_nil ?_
        intro wq hBq
        have hB2 := hB0.out.trans (hBq.mono hB0.out.size)
        clear hBq
        go_wp2_with fail
        go_roundg (gk - 1)
        case measure => omega
        case rel => exact ⟨1, by omega, by go_num, fun j h hj => by omega, hB2⟩
      | succ k =>
        obtain ⟨b, off, rfl, hb, hcap, hmax, hcell⟩ := Hp.out (by omega)
        have H1 := Lib.hid (fun w1 (h1 : Below wr.heap.size wr w1) => Rows.path (cap := cap) (k := k) (by omega) hb hcell (hB.trans (h1.mono hB.size)))
        have H2 := Lib.hid (fun w1 (h1 : Below wr.heap.size wr w1) => Rows.path (cap := cap) hka hb hcell (hB.trans (h1.mono hB.size)))
        have hs1 := Hz.out _ (List.getElem_mem (l := a) (n := k) (by omega))
        have hs2 := Hz.out _ (List.getElem_mem hka)
        have HC := Lib.hid (fun w1 (h1 : Below wr.heap.size wr w1) => (refCmp_any (a[k]'(by omega)).1 a[k + 1].1 w1 hs1 hs2).mono (fun e w2 hh => (⟨hh.1, h1.trans (hh.2.mono h1.size)⟩ : e = .returned (.int .i64 (cmpP (a[k]'(by omega)).1 a[k + 1].1)) ∧ Below wr.heap.size wr w2)))
        obtain ⟨od, hod⟩ : ∃ od, od = cmpP (a[k]'(by omega)).1 a[k + 1].1 := ⟨_, rfl⟩
        rw [← hod] at HC
        have Hod := Lib.hid hod
        obtain ⟨x, hx⟩ : ∃ x, x = (a[k]'(by omega)).1 := ⟨_, rfl⟩
        obtain ⟨y, hy⟩ : ∃ y, y = a[k + 1].1 := ⟨_, rfl⟩
        rw [← hx] at H1 HC
        rw [← hy] at H2 HC
        unfold maxLen at hmax
        have hix : ((k + 1 : Nat) : Int) - 1 = (k : Int) := by omega
        have hkI : (k : Int) < (len : Int) := by omega
        have hk0 : (0 : Int) < ((k + 1 : Nat) : Int) := by omega
        clear hx hy hod hcell hB hs1 hs2
        by_cases hlt0 : od < 0
        · have hge : ¬ 0 ≤ od := by omega
          go_wp2_with fail
          refine wp_region_class (Below wr.heap.size wr) (by kernel_rfl) (by kernel_rfl) (Below.refl _ _).drew ?_
          repeat (go_big_quiet_step (first | (intro hh; with_reducible exact HC.out _ hh) | (intro _; rfl)))
          refine wpQuiet_load_at rfl 9 (.tmp 16) rfl ⟨b, off + k * 33, none⟩ rfl (.string x) H1.out ?_
          simp only [Act.put, List.setIfInBounds_toArray, List.set_cons_succ, List.set_cons_zero]
          repeat (go_big_quiet_step (first | (intro hh; with_reducible exact HC.out _ hh) | (intro _; rfl)))
          refine wpQuiet_load_at rfl 9 (.tmp 21) rfl ⟨b, off + (k + 1) * 33, none⟩ rfl (.string y) H2.out ?_
          simp only [Act.put, List.setIfInBounds_toArray, List.set_cons_succ, List.set_cons_zero]
          repeat (go_big_quiet_step (first | (intro hh; with_reducible exact HC.out _ hh) | (intro _; rfl)))
          refine wpQuiet_nil ?_
          intro wq hBq
          have hB2 := hB0.out.trans (hBq.mono hB0.out.size)
          clear hBq
          go_wp2_with fail
          go_roundg (gk - 1)
          case measure => omega
          case rel => exact ⟨k + 1 + 1, by omega, by go_num, fun j h hj => by
            by_cases e : j = k
            · subst e; rw [← Hod.out]; exact hlt0
            · exact Hno.out j h (by omega), hB2⟩
        · have hge : 0 ≤ od := by omega
          go_wp2_with fail
          refine wp_region_class (Below wr.heap.size wr) (by kernel_rfl) (by kernel_rfl) (Below.refl _ _).drew ?_
          repeat (go_big_quiet_step (first | (intro hh; with_reducible exact HC.out _ hh) | (intro _; rfl)))
          refine wpQuiet_load_at rfl 9 (.tmp 16) rfl ⟨b, off + k * 33, none⟩ rfl (.string x) H1.out ?_
          simp only [Act.put, List.setIfInBounds_toArray, List.set_cons_succ, List.set_cons_zero]
          repeat (go_big_quiet_step (first | (intro hh; with_reducible exact HC.out _ hh) | (intro _; rfl)))
          refine wpQuiet_load_at rfl 9 (.tmp 21) rfl ⟨b, off + (k + 1) * 33, none⟩ rfl (.string y) H2.out ?_
          simp only [Act.put, List.setIfInBounds_toArray, List.set_cons_succ, List.set_cons_zero]
          repeat (go_big_quiet_step (first | (intro hh; with_reducible exact HC.out _ hh) | (intro _; rfl)))
          refine wpQuiet_nil ?_
          intro wq hBq
          have hB2 := hB0.out.trans (hBq.mono hB0.out.size)
          clear hBq
          go_wp2_with fail
          go_ret
          refine ⟨?_, hB2⟩
          have : risB a = false := by
            rw [Bool.eq_false_iff]
            intro h
            have := (ris_at a).1 h k hka
            rw [← Hod.out] at this
            omega
          rw [this]; rfl
    · have hnI : ¬ (k : Int) < (len : Int) := by omega
      have Hall : Hid (risB a = true) := Lib.hid ((ris_at a).2 fun j h => Hno.out j h (by have := Ha.out; omega))
      go_wp2_with fail
      go_ret
      exact ⟨by rw [Hall.out]; rfl, hB⟩
end Go.Proofs.YtdhaanaenklleaaDoor
