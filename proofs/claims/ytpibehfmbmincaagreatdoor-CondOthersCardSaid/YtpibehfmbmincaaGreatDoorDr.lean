/- The door's own heap meets the condition; what the library's variables hold; a platform's opening. -/
import Derived.Test.YtpibehfmbmincaaGreatDoorSh
import Derived.Test.YtpibehfmbmincaaGreatDoorCh
import Derived.Test.YtpibehfmbmincaaGreatDoorOp
import Derived.Test.YtpibehfmbmincaaGreatDoorRows
import Derived.LaidMore
import Derived.Lay
import Derived.Stop.Joined
import Derived.Handed
import Derived.ProofKit
import Derived.LaidLaws
import Derived.Lib.LaidU8
namespace Go.Proofs.YtpibehfmbmincaaGreatDoor
set_option linter.unusedVariables false
open Go.ChangeShapes Go.WideShapes Go.RowKit

theorem plain_of {W : World} (h : laidMetH Tryz.prog Rows.condLevelsRow.laid W) : laidMet Tryz.prog Rows.condLevelsRow.laid W := by
  rw [← MakeChecks.laidMetH_plain _ _ _ (by kernel_rfl)]; exact h
set_option maxRecDepth 100000 in
theorem door_met (os : Os) (args : Array Value) : laidMetH Tryz.prog Rows.condLevelsRow.laid ((World.laidAll Tryz.prog os Rows.condLevelsRow.laid).forCall (fun _ _ => 0) ⟨#[], args, []⟩).memory := by
  rw [MakeChecks.laidMetH_plain _ _ _ (by kernel_rfl)]; exact laidMet_laidAll _ (by kernel_rfl) (by kernel_rfl)
theorem tab_met {W : World} (h : laidMet Tryz.prog Rows.condLevelsRow.laid W) : Lib.TabIs Tryz.prog W "internal/strconv.uint64pow10" .u64 Lib.pow10Tab := by
  obtain ⟨g, t, cs, fuel, p, h1, h2, h3, h4⟩ := Lib.laidMet.reads h (n := "internal/strconv.uint64pow10") (List.mem_of_getElem? (i := 2) rfl)
  have hg : Tryz.prog.globalNamed "internal/strconv.uint64pow10" = some 2 := by kernel_rfl
  obtain rfl := Option.some.inj (hg.symm.trans h1)
  have ht : (Tryz.prog.globals[2]?).map (·.type) = some 119 := by kernel_rfl
  obtain rfl := Option.some.inj (ht.symm.trans h2)
  unfold Lib.TabIs
  rw [h3, ← Lib.cells_of_tab (zs := Lib.pow10Tab) (k := .u64) Tryz.underlying119 Tryz.underlying93 (by kernel_rfl) (by kernel_rfl) h4]
theorem err_met {W : World} (h : laidMet Tryz.prog Rows.condLevelsRow.laid W) : ∃ te pe, W.cell? ⟨0, 0, none⟩ = some (.iface te pe) := by
  obtain ⟨g, t, cs, fuel, p, h1, h2, h3, h4⟩ := Lib.laidMet.reads h (n := "strconv.ErrSyntax") (List.mem_of_getElem? (i := 5) rfl)
  have hg : Tryz.prog.globalNamed "strconv.ErrSyntax" = some 0 := by kernel_rfl
  obtain rfl := Option.some.inj (hg.symm.trans h1)
  have ht : (Tryz.prog.globals[0]?).map (·.type) = some 59 := by kernel_rfl
  obtain rfl := Option.some.inj (ht.symm.trans h2)
  obtain ⟨fuel', u, v, hcs, _, _⟩ := iface_of_trod Tryz.underlying59 h4
  have := World.var?_cell hg h3 0
  rw [this]
  have hc : cs = #[.iface u v] := by cases cs; simp_all
  rw [hc]
  exact ⟨u, v, rfl⟩
theorem env_of {W : World} {m : Int} (h : laidMetH Tryz.prog Rows.condLevelsRow.laid W) (hm : W.cell? ⟨3, 0, none⟩ = some (.int .i64 m)) : Env W :=
  ⟨⟨World.block_lt_of_cell? W _ hm, m, hm⟩, err_met (plain_of h), tab_met (plain_of h)⟩

theorem handed_shaped {H : Type} {enc : TypeId × Value → H} {a : Assume} {C : Checked} {os : Os} {f : FuncId} {fn : Func} {s : ChangeSpec} {conds : List PathCond} {apart fresh handsOn again : Bool} {X : World → Array Value → Prop}
    (hX : ∀ (w w' : World) (args : Array Value), w.heap = w'.heap → X w args → X w' args)
    (own : ownKnob C.prog.godebug = none) (started : os.Started) (noInit : C.prog.inits.idxOf? f = none) (hfn : C.prog.funcs[f]? = some fn)
    (witness : ∃ (w : World) (tape : Tape) (i : Input), w.os = os ∧ (w.forCall tape i).Shaped C.prog ∧ i.vars = [] ∧ Input.okWide C.prog (w.forCall tape i) .any w.heap.size f i ∧
      ((s.pre enc C.prog fn conds apart (w.forCall tape i).memory i.args ∧ X (w.forCall tape i).memory i.args) ∧ sizedMet enc C.prog fn (OpenSpec.ofChange s) apart (w.forCall tape i).memory i.args) ∧ a.holds C.prog (lone (Frame.enter C.prog f i.args .normal) [] (w.forCall tape i)))
    (contract : ∀ (W : World) (base : Nat) (args : Array Value) (ds gs : List (DataW H)) (before : List MemPlace),
      (∀ (j : Nat) t v, fn.params[j]? = some t → args[j]? = some v → Value.okWide C.prog W .any base t v) →
      DataW.Whole enc C.prog fn.params.toList s.vars apart W args.toList ds gs before →
      conds.all (PathCond.test C.prog ⟨fn.params.toList, ds, s.plain.varTypes C.prog, gs⟩) = true →
      (DataW.weightsEach C.prog (fn.params.toList ++ s.plain.varTypes C.prog) (ds ++ gs)).all (· ≤ reachBytes) = true → X W args →
      W.ShapedOpen C.prog →
      Calls C.prog f args W fun e W' => ∃ v, e = .returned v ∧ s.post enc C.prog fn apart fresh handsOn again W args v W') :
    ReturnsInHanded a C os f .any (fun w args => (s.pre enc C.prog fn conds apart w args ∧ X w args) ∧ sizedMet enc C.prog fn (OpenSpec.ofChange s) apart w args) (s.post enc C.prog fn apart fresh handsOn again) := by
  refine returnsInHanded_of_calls own started noInit witness ?_
  intro w tape i _ hsh _ hok hpre hholds
  obtain ⟨_, _, _, fn', hfn', _, _, _, _, hval⟩ := hok
  have e : fn' = fn := Option.some.inj (hfn'.symm.trans hfn)
  subst e
  obtain ⟨⟨⟨ds, gs, before, hw, hc⟩, hx⟩, hz⟩ := hpre
  have hw' := DataW.Whole.of_heap (w' := w.forCall tape i) (by rfl) hw
  refine (contract (w.forCall tape i) w.heap.size i.args ds gs before hval hw' hc (hz.weights hw) (hX _ _ _ (by rfl) hx) hsh).mono fun e W' ⟨v, he, hp⟩ => ?_
  subst he
  exact ChangeSpec.post_blind hp

abbrev confR (W : World) := consR strR (consR strR (consR boolR (consR (intR .i64) (consR (rowsR W 1 strR) nilR))))
theorem opens_conf (W : World) : Opens Tryz.prog W 24 (confR W) :=
  opens_struct Tryz.underlying24 (by kernel_rfl) (opensF_cons (k := 1) rfl (by kernel_rfl) (opens_str Tryz.underlying9) (opensF_cons (k := 1) rfl (by kernel_rfl) (opens_str Tryz.underlying9) (opensF_cons (k := 1) rfl (by kernel_rfl) (opens_bool Tryz.underlying4)
    (opensF_cons (k := 1) rfl (by kernel_rfl) (opens_int Tryz.underlying3) (opensF_cons (k := 1) rfl (by kernel_rfl) (opens_list Tryz.underlying22 (by kernel_rfl) (by decide) (opens_str Tryz.underlying9)) opensF_nil)))))
theorem strs_of_rows {W : World} {v : Value} {l : List ByteArray} (h : Rows W 1 strR v l) : Strs W v l ∧ (∀ x ∈ l, x.size ≤ 140737488351232) ∧ l.length ≤ 9223372036854775807 := by
  rcases h with ⟨⟨p, cap, rfl⟩, rfl⟩ | ⟨b, off, cap, rfl, h0, hl, hc, hb, hcell⟩
  · exact ⟨.inl ⟨⟨p, cap, rfl⟩, rfl⟩, fun x hx => (List.not_mem_nil hx).elim, by decide⟩
  · refine ⟨.inr ⟨b, off, cap, rfl, hl, hc, hb, fun i hi => ?_⟩, fun x hx => ?_, ?_⟩
    · obtain ⟨ecs, ⟨he, _⟩, _, hat⟩ := hcell i l[i] (List.getElem?_eq_getElem hi)
      have := hat 0 (by decide)
      rw [he, Nat.mul_one, Nat.add_zero] at this
      rw [this]
      simp [List.getD, hi]
    · obtain ⟨i, hi, rfl⟩ := List.getElem_of_mem hx
      obtain ⟨ecs, ⟨_, hs⟩, _, _⟩ := hcell i l[i] (List.getElem?_eq_getElem hi)
      exact hs
    · unfold maxLen at hc; omega
theorem conf_of {W : World} {a : _} {c : Array Value} (h : confR W a c.toList) : ∃ (f : Cf) (tv : Value), (.agg c : Value) = cfV f tv ∧ Strs W tv f.tags ∧ (∀ x ∈ f.tags, x.size ≤ 140737488351232) ∧ f.tags.length ≤ 9223372036854775807 ∧ f.os.size ≤ 140737488351232 ∧ f.arch.size ≤ 140737488351232 := by
  obtain ⟨os, arch, cgo, lv, tags, u⟩ := a
  obtain ⟨c1, r1, e1, ⟨rfl, ho⟩, c2, r2, rfl, ⟨rfl, ha⟩, c3, r3, rfl, rfl, c4, r4, rfl, ⟨rfl, hlv⟩, c5, r5, rfl, ⟨v, rfl, hv⟩, rfl⟩ := h
  obtain ⟨hs, hz, hl⟩ := strs_of_rows hv
  refine ⟨⟨os, arch, cgo, lv, tags⟩, v, ?_, hs, hz, hl, ho, ha⟩
  have : c = #[.string os, .string arch, .bool cgo, .int .i64 lv, v] := by
    cases c
    simp_all
  rw [this]
  rfl
theorem great_few {c : Cf} (h : greatC c = false) : c.tags.length ≤ 20 := by
  unfold greatC at h
  rw [Bool.or_eq_false_iff] at h
  have := of_decide_eq_false h.2
  omega
theorem levels_walk {W : World} {a : _} {c : Array Value} (h : confR W a c.toList) (more n : Int) (tag : ByteArray) (hE : Env W) : Calls Tryz.prog 3 #[.agg c, .int .i64 more, .string tag, .int .i64 n] W (LawEnd W) := by
  obtain ⟨f, tv, e, hs, hz, hl, ho, ha⟩ := conf_of h
  rw [e]
  cases hg : greatC f with
  | false => exact levels_any f tv more n tag W hE hs hz (by have := great_few hg; omega) ho ha
  | true =>
    have HA := Lib.hid (fun w1 (h1 : Below W.heap.size W w1) => alive_any w1 (hE.below h1))
    have HG := fun w1 (h1 : Below W.heap.size W w1) => greatC_any f tv w1 (hs.below h1) hz hl ho ha
    rw [hg] at HG
    obtain ⟨p, cap, rfl, -⟩ := strs_shape hs
    exact lev_great f.os f.arch tag f.cgo f.lv more n p _ cap W HA (Lib.hid HG)
theorem names_walk {W : World} {a : _} {c : Array Value} (h : confR W a c.toList) (i k : Int) (t : Bool) (hE : Env W) : Calls Tryz.prog 5 #[.agg c, .int .i64 i, .int .i64 k, .bool t] W (LawEnd W) := by
  obtain ⟨f, tv, e, hs, hz, hl, ho, ha⟩ := conf_of h
  rw [e]
  cases hg : greatC f with
  | false => exact names_any f tv i k t W hE hs hz (by have := great_few hg; omega) ho ha
  | true =>
    have HA := Lib.hid (fun w1 (h1 : Below W.heap.size W w1) => alive_any w1 (hE.below h1))
    have HG := fun w1 (h1 : Below W.heap.size W w1) => greatC_any f tv w1 (hs.below h1) hz hl ho ha
    rw [hg] at HG
    obtain ⟨p, cap, rfl, -⟩ := strs_shape hs
    exact nam_great f.os f.arch f.cgo f.lv i k t p _ cap W HA (Lib.hid HG)
end Go.Proofs.YtpibehfmbmincaaGreatDoor
