/- The listed variables of the law of names: the rounds' numbers; the door's own heap meets the condition; a law's frame that hands on that the world is of the program's shape. -/
import Derived.Test.YtdhaanaenklleaaGreatDoorSh
import Derived.Test.YtdhaanaenklleaaGreatDoorRows
import Derived.Test.YtdhaanaenklleaaGreatDoorQ3
import Derived.Test.YtdhaanaenklleaaGreatDoorQ4
import Derived.Lib.LaidU8T
import Derived.LaidMore
import Derived.Lay
import Derived.Stop.Joined
import Derived.Handed
import Derived.ProofKit
namespace Go.Proofs.YtdhaanaenklleaaGreatDoor
open Go.ChangeShapes Go.WideShapes Go.RowKit

theorem keys_eq : (Rows.laid_seiche_sha_keys : DataW Unit) = Lib.tabData .u32 (S.K64.map fun (n : Nat) => (n : Int)) := by kernel_rfl
theorem kn : Tryz.prog.globalNamed "seiche/sha.keys" = some 0 := by kernel_rfl
theorem ky : (Tryz.prog.globals[0]?).map (·.type) = some 153 := by kernel_rfl
theorem kc5 : Tryz.prog.cellsOf 130 = 1 := by kernel_rfl
theorem kc48 : Tryz.prog.cellsOf 153 = 64 := by kernel_rfl
theorem keys_of_laid {W : World} (h : laidMetH Tryz.prog Rows.treeApartRow.laid W) : S.KeysAt W := by
  rw [MakeChecks.laidMetH_plain _ _ _ (by kernel_rfl)] at h
  have h3 := keys_eq ▸ Lib.laidMet.reads h (List.Mem.tail _ (List.Mem.head _))
  obtain ⟨g, t, cs, fuel, p, hg, hty, hvar, hd⟩ := h3
  obtain rfl := Option.some.inj (kn.symm.trans hg)
  obtain rfl := Option.some.inj (ky.symm.trans hty)
  have hcs := Lib.cells_of_tab Tryz.underlying153 Tryz.underlying130 kc5 kc48 hd
  have hc : ∀ j, j < 64 → W.cell? ⟨0, j, none⟩ = some (.int .u32 ((S.K64.getD j 0 : Nat) : Int)) := fun j hj => by
    rw [World.var?_cell hg hvar j, ← Array.getElem?_toList, hcs, List.getElem?_map, List.getElem?_map, List.getElem?_eq_getElem (by rw [S.k64_len]; exact hj)]
    simp [List.getD_eq_getElem?_getD, List.getElem?_eq_getElem (show j < S.K64.length by rw [S.k64_len]; exact hj)]
  exact ⟨World.block_lt_of_cell? W _ (hc 0 (by decide)), hc⟩
set_option maxRecDepth 100000 in
theorem door_met (os : Os) (args : Array Value) : laidMetH Tryz.prog Rows.treeApartRow.laid ((World.laidAll Tryz.prog os Rows.treeApartRow.laid).forCall (fun _ _ => 0) ⟨#[], args, []⟩).memory := by
  rw [MakeChecks.laidMetH_plain _ _ _ (by kernel_rfl)]; exact laidMet_laidAll _ (by kernel_rfl) (by kernel_rfl)

theorem handed_shaped {H : Type} {enc : TypeId × Value → H} {a : Assume} {C : Checked} {os : Os} {f : FuncId} {fn : Func} {s : ChangeSpec} {conds : List PathCond} {apart fresh handsOn again : Bool} {X : World → Array Value → Prop}
    (hX : ∀ (w w' : World) (args : Array Value), w.heap = w'.heap → X w args → X w' args)
    (own : ownKnob C.prog.godebug = none) (started : os.Started) (noInit : C.prog.inits.idxOf? f = none) (hfn : C.prog.funcs[f]? = some fn)
    (witness : ∃ (w : World) (tape : Tape) (i : Input), w.os = os ∧ (w.forCall tape i).Shaped C.prog ∧ i.vars = [] ∧ Input.okWide C.prog (w.forCall tape i) .any w.heap.size f i ∧
      ((s.pre enc C.prog fn conds apart (w.forCall tape i).memory i.args ∧ X (w.forCall tape i).memory i.args) ∧ sizedMet enc C.prog fn (OpenSpec.ofChange s) apart (w.forCall tape i).memory i.args) ∧ a.holds C.prog (lone (Frame.enter C.prog f i.args .normal) [] (w.forCall tape i)))
    (contract : ∀ (W : World) (base : Nat) (args : Array Value) (ds gs : List (DataW H)) (before : List MemPlace),
      (∀ (j : Nat) t v, fn.params[j]? = some t → args[j]? = some v → Value.okWide C.prog W .any base t v) →
      DataW.Whole enc C.prog fn.params.toList s.vars apart W args.toList ds gs before →
      conds.all (PathCond.test C.prog ⟨fn.params.toList, ds, s.plain.varTypes C.prog, gs⟩) = true →
      (DataW.weightsEach C.prog (fn.params.toList ++ s.plain.varTypes C.prog) (ds ++ gs)).all (· ≤ reachBytes) = true → X W args →
      W.ShapedOpen C.prog →
      Calls C.prog f args W fun e W' => ∃ v, e = .returned v ∧ s.post enc C.prog fn apart fresh handsOn again W args v W') :
    ReturnsInHanded a C os f .any (fun w args => (s.pre enc C.prog fn conds apart w args ∧ X w args) ∧ sizedMet enc C.prog fn (OpenSpec.ofChange s) apart w args) (s.post enc C.prog fn apart fresh handsOn again) := by
  refine returnsInHanded_of_calls own started noInit witness ?_
  intro w tape i _ hsh _ hok hpre hholds
  obtain ⟨_, _, _, fn', hfn', _, _, _, _, hval⟩ := hok
  have e : fn' = fn := Option.some.inj (hfn'.symm.trans hfn)
  subst e
  obtain ⟨⟨⟨ds, gs, before, hw, hc⟩, hx⟩, hz⟩ := hpre
  have hw' := DataW.Whole.of_heap (w' := w.forCall tape i) (by rfl) hw
  refine (contract (w.forCall tape i) w.heap.size i.args ds gs before hval hw' hc (hz.weights hw) (hX _ _ _ (by rfl) hx) hsh).mono fun e W' ⟨v, he, hp⟩ => ?_
  subst he
  exact ChangeSpec.post_blind hp
theorem max_of {W : World} {m : Int} (hm : W.cell? ⟨1, 0, none⟩ = some (.int .i64 m)) : MaxAt W := ⟨World.block_lt_of_cell? W _ hm, m, hm⟩
theorem rows_of {W : World} {n : Nat} {X : Type} {R : X → List Value → Prop} {l : List X} {x : Option Addr} {len cap : Nat} (h : rowsR W n R l (Value.slice x len cap).cells.toList) : Rows W n R (.slice x len cap) l := by
  obtain ⟨v, e, h⟩ := h
  have : [Value.slice x len cap] = [v] := e
  obtain rfl : Value.slice x len cap = v := by simpa using this
  exact h
end Go.Proofs.YtdhaanaenklleaaGreatDoor
