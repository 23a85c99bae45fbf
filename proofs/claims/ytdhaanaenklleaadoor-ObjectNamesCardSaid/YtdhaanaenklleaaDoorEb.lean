/- Walks: two lists of inputs, two lists of changes, held against each other. -/
import Derived.Test.YtdhaanaenklleaaDoorEa
import Derived.Test.YtdhaanaenklleaaDoorKt
import Derived.Test.YtdhaanaenklleaaDoorKq
import Derived.WalkKit
import Derived.ProofKit
import Derived.OpenShut
import Derived.WalkSpells
import Derived.WalkLawsBesides
import Derived.Below
import Derived.Deep.DeepFit
import Derived.RegionTactic
import Derived.ChangeAlike
import Derived.Deep.QuietTactic
import Derived.Deep.LoopGhost
import Derived.BigQuiet
import Derived.Laws.MakeOwn
import Derived.Laws.AppendOwn
import Derived.Deep.DeepMust
import Derived.Maps.AppendAt
import Derived.Deep.MidRow
namespace Go.Proofs.YtdhaanaenklleaaDoor
set_option linter.unusedVariables false
open Go.ChangeShapes Go.WideShapes Go.ChangeAt Go.RowKit

theorem wpQuiet_load_at {P : Program} {C : World → Prop} {ops : Array Oper} {rest : List Oper} {o : Oper} {a : Act} {Q : Act → Prop} (hw : Region.wanted o (yielded ops a.tmps) = true) (ty : TypeId) (x : Operand) (ho : o.op = .load ty x)
    (p : Addr) (hx : a.eval x = .pointer (some p)) (v : Value) (hr : ∀ w, C w → (loadVar ty p).run P w = .ok v w)
    (h : wpQuiet P ops C Q rest (a.put o.dst v)) : wpQuiet P ops C Q (o :: rest) a := by
  refine Go.BigFrame.wpQuiet_want hw fun K hK => ⟨v, fun w hw => ?_, hK _ h⟩
  unfold Oper.quietAt execOp
  simp only [ho, hx, Instr.loadAt, Instr.sureAddr, Sem.run_bind, Sem.run_pure, Result.andThen_ok, hr w hw]
  exact ⟨rfl, rfl⟩
theorem same_take {α : Type} {a b : List α} {k : Nat} (ha : k < a.length) (hb : k < b.length) (h : a.take k = b.take k) (e : a[k] = b[k]) : a.take (k + 1) = b.take (k + 1) := by
  rw [List.take_succ_eq_append_getElem ha, List.take_succ_eq_append_getElem hb, h, e]


set_option maxRecDepth 100000 in
set_option maxHeartbeats 1000000 in
theorem same8_any (v u : Value) (a b : List Inp) (w : World) (hv : Rows w 33 inpR v a) (hu : Rows w 33 inpR u b) :
    Calls Tryd.prog 45 #[v, u] w fun e w' => e = .returned (.bool (decide (a = b))) ∧ Below w.heap.size w w' := by
  obtain ⟨p, cap, rfl, hp⟩ := hv.shape
  obtain ⟨q, cap2, rfl, hq⟩ := hu.shape
  have Hp := Lib.hid hp
  have Hq := Lib.hid hq
  by_cases hlen : a.length = b.length
  · obtain ⟨len, hl⟩ : ∃ len, len = a.length := ⟨_, rfl⟩
    rw [← hlen] at Hq
    rw [← hlen]
    rw [← hl] at Hp Hq ⊢
    have Ha := Lib.hid hl
    have Hb := Lib.hid (hl.trans hlen)
    clear hv hu hp hq hl hlen
    go_enter Tryd.func45, Tryd.ntmps45
    go_wp2_with fail
    go_loopg [5, 13] len (fun g _ iv wr => ∃ k : Nat, k + g = len ∧ iv = .int .i64 k ∧ a.take k = b.take k ∧ Below w.heap.size w wr)
    case atStart => exact ⟨0, by omega, rfl, rfl, Below.refl _ _⟩
    case round =>
      obtain ⟨k, hkg, rfl, hno, hB⟩ := hrel
      have Hno := Lib.hid hno
      clear hno
      by_cases hlt : k < len
      · have hltI : (k : Int) < (len : Int) := by omega
        have hka : k < a.length := by have := Ha.out; omega
        have hkb : k < b.length := by have := Hb.out; omega
        obtain ⟨g1, o1, rfl, hg1, hcap1, hmax1, hcell1⟩ := Hp.out (by omega)
        obtain ⟨g2, o2, rfl, hg2, hcap2, hmax2, hcell2⟩ := Hq.out (by omega)
        obtain ⟨x, hx, hxl, hat1⟩ := hcell1 k a[k] (List.getElem?_eq_getElem hka)
        obtain ⟨y, hy, hyl, hat2⟩ := hcell2 k b[k] (List.getElem?_eq_getElem hkb)
        have hi0 : (Tryd.prog.info? 113).map (·.size) = some 33 := by kernel_rfl
        have H1 := Lib.hid (fun w1 (h1 : Below wr.heap.size wr w1) => run_loadVar_mid (P := Tryd.prog) w1 g1 (o1 + k * 33) 113 x _ (fun j z hz => by
          have hj := (List.getElem?_eq_some_iff.1 hz).1
          rw [← hz, ← hat1 j (by omega)]
          have hBB := hB.trans (h1.mono hB.size)
          exact hBB.cell (p := ⟨g1, o1 + k * 33 + j, none⟩) hg1) Tryd.underlying113 rfl (by rw [hi0, hxl]))
        have H2 := Lib.hid (fun w1 (h1 : Below wr.heap.size wr w1) => run_loadVar_mid (P := Tryd.prog) w1 g2 (o2 + k * 33) 113 y _ (fun j z hz => by
          have hj := (List.getElem?_eq_some_iff.1 hz).1
          rw [← hz, ← hat2 j (by omega)]
          have hBB := hB.trans (h1.mono hB.size)
          exact hBB.cell (p := ⟨g2, o2 + k * 33 + j, none⟩) hg2) Tryd.underlying113 rfl (by rw [hi0, hyl]))
        have heq := fun w1 => eq_inp (x := x.toArray) (y := y.toArray) (by simpa using hx) (by simpa using hy) w1
        obtain ⟨r, hr⟩ : ∃ r, r = decide (a[k] = b[k]) := ⟨_, rfl⟩
        rw [← hr] at heq
        have Hr := Lib.hid hr
        have hB0 := Lib.hid hB
        unfold maxLen at hmax1 hmax2
        clear hr hx hy hxl hyl hat1 hat2 hcell1 hcell2 hi0 hB
        go_wp2_with fail
        cases r with
        | false =>
          have hne : a ≠ b := fun e => by
            subst e
            have := Hr.out
            simp at this
          have Hne := Lib.hid hne
          clear hne
          refine wp_region_class (Below wr.heap.size wr) (by kernel_rfl) (by kernel_rfl) (Below.refl _ _).drew ?_
          repeat (go_big_quiet_step (first | (intro _; rfl)))
          refine wpQuiet_load_at rfl 113 (.tmp 18) rfl ⟨g1, o1 + k * 33, none⟩ rfl (.agg x.toArray) H1.out ?_
          simp only [Act.put, List.setIfInBounds_toArray, List.set_cons_succ, List.set_cons_zero]
          repeat (go_big_quiet_step (first | (intro _; rfl)))
          refine wpQuiet_load_at rfl 113 (.tmp 22) rfl ⟨g2, o2 + k * 33, none⟩ rfl (.agg y.toArray) H2.out ?_
          simp only [Act.put, List.setIfInBounds_toArray, List.set_cons_succ, List.set_cons_zero]
          repeat (go_big_quiet_step (first | (intro _; rfl)))
          refine wpQuiet_nil ?_
          intro wq hBq
          have hB2 := hB0.out.trans (hBq.mono hB0.out.size)
          clear hBq heq
          go_wp2_with fail
          go_ret
          exact ⟨by rw [decide_eq_false Hne.out]; rfl, hB2⟩
        | true =>
          have Hn := Lib.hid (same_take hka hkb Hno.out (of_decide_eq_true Hr.out.symm))
          refine wp_region_class (Below wr.heap.size wr) (by kernel_rfl) (by kernel_rfl) (Below.refl _ _).drew ?_
          repeat (go_big_quiet_step (first | (intro _; rfl)))
          refine wpQuiet_load_at rfl 113 (.tmp 18) rfl ⟨g1, o1 + k * 33, none⟩ rfl (.agg x.toArray) H1.out ?_
          simp only [Act.put, List.setIfInBounds_toArray, List.set_cons_succ, List.set_cons_zero]
          repeat (go_big_quiet_step (first | (intro _; rfl)))
          refine wpQuiet_load_at rfl 113 (.tmp 22) rfl ⟨g2, o2 + k * 33, none⟩ rfl (.agg y.toArray) H2.out ?_
          simp only [Act.put, List.setIfInBounds_toArray, List.set_cons_succ, List.set_cons_zero]
          repeat (go_big_quiet_step (first | (intro _; rfl)))
          refine wpQuiet_nil ?_
          intro wq hBq
          have hB2 := hB0.out.trans (hBq.mono hB0.out.size)
          clear hBq heq
          go_wp2_with fail
          go_roundg (gk - 1)
          case measure => omega
          case rel => exact ⟨k + 1, by omega, by go_num, Hn.out, hB2⟩
      · have hnI : ¬ (k : Int) < (len : Int) := by omega
        have Hall : Hid (a = b) := Lib.hid (by
          have h := Hno.out
          rwa [List.take_of_length_le (by have := Ha.out; omega), List.take_of_length_le (by have := Hb.out; omega)] at h)
        go_wp2_with fail
        go_ret
        exact ⟨by rw [decide_eq_true Hall.out]; rfl, hB⟩
  · have hlI : ((a.length : Int) == (b.length : Int)) = false := beq_eq_false_iff_ne.2 (by omega)
    have Hne : Hid (a ≠ b) := Lib.hid (fun e => hlen (by rw [e]))
    clear hv hu hp hq
    go_enter Tryd.func45, Tryd.ntmps45
    go_wp2_with fail
    go_ret
    exact ⟨by rw [decide_eq_false Hne.out]; rfl, Below.refl _ _⟩


set_option maxRecDepth 100000 in
set_option maxHeartbeats 1000000 in
theorem same9_any (v u : Value) (a b : List Chg) (w : World) (hv : Rows w 2 chgR v a) (hu : Rows w 2 chgR u b) :
    Calls Tryd.prog 42 #[v, u] w fun e w' => e = .returned (.bool (decide (a = b))) ∧ Below w.heap.size w w' := by
  obtain ⟨p, cap, rfl, hp⟩ := hv.shape
  obtain ⟨q, cap2, rfl, hq⟩ := hu.shape
  have Hp := Lib.hid hp
  have Hq := Lib.hid hq
  by_cases hlen : a.length = b.length
  · obtain ⟨len, hl⟩ : ∃ len, len = a.length := ⟨_, rfl⟩
    rw [← hlen] at Hq
    rw [← hlen]
    rw [← hl] at Hp Hq ⊢
    have Ha := Lib.hid hl
    have Hb := Lib.hid (hl.trans hlen)
    clear hv hu hp hq hl hlen
    go_enter Tryd.func42, Tryd.ntmps42
    go_wp2_with fail
    go_loopg [5, 13] len (fun g _ iv wr => ∃ k : Nat, k + g = len ∧ iv = .int .i64 k ∧ a.take k = b.take k ∧ Below w.heap.size w wr)
    case atStart => exact ⟨0, by omega, rfl, rfl, Below.refl _ _⟩
    case round =>
      obtain ⟨k, hkg, rfl, hno, hB⟩ := hrel
      have Hno := Lib.hid hno
      clear hno
      by_cases hlt : k < len
      · have hltI : (k : Int) < (len : Int) := by omega
        have hka : k < a.length := by have := Ha.out; omega
        have hkb : k < b.length := by have := Hb.out; omega
        obtain ⟨g1, o1, rfl, hg1, hcap1, hmax1, hcell1⟩ := Hp.out (by omega)
        obtain ⟨g2, o2, rfl, hg2, hcap2, hmax2, hcell2⟩ := Hq.out (by omega)
        obtain ⟨x, hx, hxl, hat1⟩ := hcell1 k a[k] (List.getElem?_eq_getElem hka)
        obtain ⟨y, hy, hyl, hat2⟩ := hcell2 k b[k] (List.getElem?_eq_getElem hkb)
        have hi0 : (Tryd.prog.info? 77).map (·.size) = some 2 := by kernel_rfl
        have H1 := Lib.hid (fun w1 (h1 : Below wr.heap.size wr w1) => run_loadVar_mid (P := Tryd.prog) w1 g1 (o1 + k * 2) 77 x _ (fun j z hz => by
          have hj := (List.getElem?_eq_some_iff.1 hz).1
          rw [← hz, ← hat1 j (by omega)]
          have hBB := hB.trans (h1.mono hB.size)
          exact hBB.cell (p := ⟨g1, o1 + k * 2 + j, none⟩) hg1) Tryd.underlying77 rfl (by rw [hi0, hxl]))
        have H2 := Lib.hid (fun w1 (h1 : Below wr.heap.size wr w1) => run_loadVar_mid (P := Tryd.prog) w1 g2 (o2 + k * 2) 77 y _ (fun j z hz => by
          have hj := (List.getElem?_eq_some_iff.1 hz).1
          rw [← hz, ← hat2 j (by omega)]
          have hBB := hB.trans (h1.mono hB.size)
          exact hBB.cell (p := ⟨g2, o2 + k * 2 + j, none⟩) hg2) Tryd.underlying77 rfl (by rw [hi0, hyl]))
        have heq := fun w1 => eq_chg (x := x.toArray) (y := y.toArray) (by simpa using hx) (by simpa using hy) w1
        obtain ⟨r, hr⟩ : ∃ r, r = decide (a[k] = b[k]) := ⟨_, rfl⟩
        rw [← hr] at heq
        have Hr := Lib.hid hr
        have hB0 := Lib.hid hB
        unfold maxLen at hmax1 hmax2
        clear hr hx hy hxl hyl hat1 hat2 hcell1 hcell2 hi0 hB
        go_wp2_with fail
        cases r with
        | false =>
          have hne : a ≠ b := fun e => by
            subst e
            have := Hr.out
            simp at this
          have Hne := Lib.hid hne
          clear hne
          refine wp_region_class (Below wr.heap.size wr) (by kernel_rfl) (by kernel_rfl) (Below.refl _ _).drew ?_
          repeat (go_big_quiet_step (first | (intro _; rfl)))
          refine wpQuiet_load_at rfl 77 (.tmp 18) rfl ⟨g1, o1 + k * 2, none⟩ rfl (.agg x.toArray) H1.out ?_
          simp only [Act.put, List.setIfInBounds_toArray, List.set_cons_succ, List.set_cons_zero]
          repeat (go_big_quiet_step (first | (intro _; rfl)))
          refine wpQuiet_load_at rfl 77 (.tmp 22) rfl ⟨g2, o2 + k * 2, none⟩ rfl (.agg y.toArray) H2.out ?_
          simp only [Act.put, List.setIfInBounds_toArray, List.set_cons_succ, List.set_cons_zero]
          repeat (go_big_quiet_step (first | (intro _; rfl)))
          refine wpQuiet_nil ?_
          intro wq hBq
          have hB2 := hB0.out.trans (hBq.mono hB0.out.size)
          clear hBq heq
          go_wp2_with fail
          go_ret
          exact ⟨by rw [decide_eq_false Hne.out]; rfl, hB2⟩
        | true =>
          have Hn := Lib.hid (same_take hka hkb Hno.out (of_decide_eq_true Hr.out.symm))
          refine wp_region_class (Below wr.heap.size wr) (by kernel_rfl) (by kernel_rfl) (Below.refl _ _).drew ?_
          repeat (go_big_quiet_step (first | (intro _; rfl)))
          refine wpQuiet_load_at rfl 77 (.tmp 18) rfl ⟨g1, o1 + k * 2, none⟩ rfl (.agg x.toArray) H1.out ?_
          simp only [Act.put, List.setIfInBounds_toArray, List.set_cons_succ, List.set_cons_zero]
          repeat (go_big_quiet_step (first | (intro _; rfl)))
          refine wpQuiet_load_at rfl 77 (.tmp 22) rfl ⟨g2, o2 + k * 2, none⟩ rfl (.agg y.toArray) H2.out ?_
          simp only [Act.put, List.setIfInBounds_toArray, List.set_cons_succ, List.set_cons_zero]
          repeat (go_big_quiet_step (first | (intro _; rfl)))
          refine wpQuiet_nil ?_
          intro wq hBq
          have hB2 := hB0.out.trans (hBq.mono hB0.out.size)
          clear hBq heq
          go_wp2_with fail
          go_roundg (gk - 1)
          case measure => omega
          case rel => exact ⟨k + 1, by omega, by go_num, Hn.out, hB2⟩
      · have hnI : ¬ (k : Int) < (len : Int) := by omega
        have Hall : Hid (a = b) := Lib.hid (by
          have h := Hno.out
          rwa [List.take_of_length_le (by have := Ha.out; omega), List.take_of_length_le (by have := Hb.out; omega)] at h)
        go_wp2_with fail
        go_ret
        exact ⟨by rw [decide_eq_true Hall.out]; rfl, hB⟩
  · have hlI : ((a.length : Int) == (b.length : Int)) = false := beq_eq_false_iff_ne.2 (by omega)
    have Hne : Hid (a ≠ b) := Lib.hid (fun e => hlen (by rw [e]))
    clear hv hu hp hq
    go_enter Tryd.func42, Tryd.ntmps42
    go_wp2_with fail
    go_ret
    exact ⟨by rw [decide_eq_false Hne.out]; rfl, Below.refl _ _⟩

end Go.Proofs.YtdhaanaenklleaaDoor
