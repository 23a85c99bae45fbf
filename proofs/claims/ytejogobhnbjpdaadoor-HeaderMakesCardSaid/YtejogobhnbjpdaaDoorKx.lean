/- Walks: loads and bytes of texts in a region that draws its order. -/
import Derived.Test.YtejogobhnbjpdaaDoorKe
import Derived.Test.YtejogobhnbjpdaaDoorGv
namespace Go.Proofs.YtejogobhnbjpdaaDoor
set_option linter.unusedVariables false
set_option linter.unusedSimpArgs false
open Go.ChangeShapes Go.WideShapes Go.ChangeAt Go.RowKit

theorem wpQuiet_load_at {P : Program} {C : World → Prop} {ops : Array Oper} {rest : List Oper} {o : Oper} {a : Act} {Q : Act → Prop} (hw : Region.wanted o (yielded ops a.tmps) = true) (ty : TypeId) (x : Operand) (ho : o.op = .load ty x)
    (p : Addr) (hx : a.eval x = .pointer (some p)) (v : Value) (hr : ∀ w, C w → (loadVar ty p).run P w = .ok v w)
    (h : wpQuiet P ops C Q rest (a.put o.dst v)) : wpQuiet P ops C Q (o :: rest) a := by
  refine Go.BigFrame.wpQuiet_want hw fun K hK => ⟨v, fun w hw => ?_, hK _ h⟩
  unfold Oper.quietAt execOp
  simp only [ho, hx, Instr.loadAt, Instr.sureAddr, Sem.run_bind, Sem.run_pure, Result.andThen_ok, hr w hw]
  exact ⟨rfl, rfl⟩
theorem index_run (s : ByteArray) (q : Nat) (z : Int) (hz : z = (q : Int)) (h : q < s.size) (w : World) : (Instr.index 9 (.string s) (.int .i64 z)).run Tryd.prog w = .ok (.int .u8 (byt s q : Nat)) w := by
  subst hz
  have e : s[q]? = some s[q] := getElem?_pos s q h
  have e2 : byt s q = s[q].toNat := by unfold byt; rw [get_is s q h]
  rw [e2]
  simp [Instr.index, go_sem, e]
theorem wpQuiet_index_at {C : World → Prop} {ops : Array Oper} {rest : List Oper} {o : Oper} {a : Act} {Q : Act → Prop} (hw : Region.wanted o (yielded ops a.tmps) = true) (x ix : Operand) (ho : o.op = .index 9 x ix)
    (s : ByteArray) (q : Nat) (z : Int) (hx : a.eval x = .string s) (hi : a.eval ix = .int .i64 z) (hz : z = (q : Int)) (hq : q < s.size)
    (h : wpQuiet Tryd.prog ops C Q rest (a.put o.dst (.int .u8 (byt s q : Nat)))) : wpQuiet Tryd.prog ops C Q (o :: rest) a := by
  refine Go.BigFrame.wpQuiet_want hw fun K hK => ⟨_, fun w hw => ?_, hK _ h⟩
  unfold Oper.quietAt execOp
  simp only [ho, hx, hi, Sem.run_bind, Sem.run_pure, Result.andThen_ok, index_run s q z hz hq w]
  exact ⟨rfl, rfl⟩
end Go.Proofs.YtejogobhnbjpdaaDoor
