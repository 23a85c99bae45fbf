/- Walks: the statement HeaderMakes. -/
import Derived.Test.YtejogobhnbjpdaaDoorXu
import Derived.Test.YtejogobhnbjpdaaDoorXs
import Derived.ChangeSlices
namespace Go.Proofs.YtejogobhnbjpdaaDoor
set_option linter.unusedVariables false
set_option linter.unusedSimpArgs false
open Go.ChangeShapes Go.WideShapes Go.ChangeAt Go.RowKit

/-- v is a list of integers in memory: of none, or a row of cells. -/
def Ints (w : World) (v : Value) (zs : List Int) : Prop :=
  ((∃ p cap, v = .slice p 0 cap) ∧ zs = []) ∨
  ∃ b off cap, v = .slice (some ⟨b, off, none⟩) zs.length cap ∧ zs.length ≤ cap ∧ cap ≤ maxLen ∧ b < w.heap.size ∧ ∀ i, i < zs.length → w.cell? ⟨b, off + i, none⟩ = some (.int .i64 (zs.getD i 0))

theorem ints_open' {H : Type} {enc : TypeId × Value → H} {P : Program} {W : World} {base : Nat} {t e : TypeId} (ht : P.underlying t = some (.slice e)) (he : P.underlying e = some (.int .i64)) (hc : P.cellsOf e = 1)
    {a : Option Addr} {len cap fuel : Nat} {d : DataW H} {p : List MemPlace} (hf : DataW.trod enc P W base (fun _ => true) true fuel t (Value.slice a len cap).cells.toList = some (d, p)) :
    ∃ zs, Ints W (.slice a len cap) zs ∧ zs.length ≤ 9223372036854775807 := by
  rcases open_ints ht he hc hf with ⟨hcs, _⟩ | ⟨x, l, c, zs, hcs, _, hl, hm, hz, _, hcell, hwz⟩
  · simp [Value.cells] at hcs
    obtain ⟨rfl, rfl, rfl⟩ := hcs
    exact ⟨[], .inl ⟨⟨_, _, rfl⟩, rfl⟩, by simp⟩
  · simp [Value.cells] at hcs
    obtain ⟨rfl, rfl, rfl⟩ := hcs
    have hz' : zs.length = cap := by simpa using hz
    have hlen : (zs.take len).length = len := by rw [List.length_take]; omega
    refine ⟨zs.take len, ?_, by rw [hlen]; unfold maxLen at hm; omega⟩
    by_cases h0 : len = 0
    · subst h0; exact .inl ⟨⟨_, _, rfl⟩, by simp⟩
    · obtain ⟨b, off, spot⟩ := x
      have hc0 := hcell 0 (by omega)
      have hspot : spot = none := by simpa [Addr.add] using World.cell?_spot hc0
      subst hspot
      refine .inr ⟨b, off, cap, by rw [hlen], by rw [hlen]; exact hl, hm, ?_, fun i hi => ?_⟩
      · have := World.block_lt_of_cell? W _ hc0
        simpa [Addr.add] using this
      · have := hcell i (by omega)
        rw [hlen] at hi
        have e : (⟨b, off, none⟩ : Addr).add i = ⟨b, off + i, none⟩ := by unfold Addr.add; split <;> simp_all
        rw [e] at this
        simpa [List.getD, List.getElem?_take_of_lt hi] using this


theorem ints_shape {w : World} {v : Value} {zs : List Int} (h : Ints w v zs) : ∃ p cap, v = .slice p zs.length cap ∧ (0 < zs.length → ∃ b off, p = some ⟨b, off, none⟩ ∧ b < w.heap.size ∧ ∀ i (h : i < zs.length), w.cell? ⟨b, off + i, none⟩ = some (.int .i64 zs[i])) := by
  rcases h with ⟨⟨p, cap, rfl⟩, rfl⟩ | ⟨b, off, cap, rfl, _, _, hb, hc⟩
  · exact ⟨p, cap, rfl, fun h => absurd h (Nat.lt_irrefl _)⟩
  · refine ⟨_, cap, rfl, fun _ => ⟨b, off, rfl, hb, fun i hi => ?_⟩⟩
    have := hc i hi
    rw [List.getD_eq_getElem?_getD, List.getElem?_eq_getElem hi] at this
    exact this
theorem strs_lat {w : World} {v : Value} {ss : List ByteArray} (h : Strs w v ss) : LAt 1 strV w v ss := by
  refine ⟨fun x _ => rfl, ?_⟩
  rcases h with h | ⟨b, off, cap, rfl, h1, h2, hb, hc⟩
  · obtain ⟨⟨p, cap, rfl⟩, rfl⟩ := h
    exact .inl ⟨p, cap, rfl, rfl⟩
  · refine .inr ⟨b, off, cap, rfl, hb, h1, h2, fun j x hx => ?_⟩
    rw [LF_str, List.getElem?_map] at hx
    cases hs : ss[j]? with
    | none => rw [hs] at hx; cases hx
    | some y =>
      rw [hs] at hx
      obtain ⟨hj, hy⟩ := List.getElem?_eq_some_iff.1 hs
      have := hc j hj
      rw [List.getD_eq_getElem?_getD, hs] at this
      rw [this]
      simpa using hx
theorem own_sliceS {w : World} {base : Nat} {v : Value} {n : Nat} {xs : List Value} (h : w.ownsRow base 9 1 v n xs) : ∃ p c, v = .slice p n c := by
  rcases h.2 with ⟨h1, h2⟩ | ⟨g, cap, cur, hv, _⟩
  · subst h1; exact ⟨none, 0, by rw [h2]⟩
  · exact ⟨_, cap, hv⟩
theorem own_two {w : World} (a b : ByteArray) : (w.alloc (.cells #[.string a, .string b] 9)).ownsRow w.heap.size 9 1 (.slice (some ⟨w.heap.size, 0, none⟩) 2 2) 2 (LF strV [a, b]) :=
  ⟨rfl, .inr ⟨w.heap.size, 2, #[.string a, .string b], rfl, Nat.le_refl _, heap_alloc_new w _, by decide, by unfold maxLen; omega, rfl, rfl⟩⟩
theorem idxA0 (w : World) : (Instr.index 37 (.agg #[.string { data := #[] }, .string { data := #[95, 32] }, .string { data := #[46, 32] }, .string { data := #[110, 32] }]) (.int .i64 0)).run Tryd.prog w = .ok (.string { data := #[] }) w := by kernel_rfl
theorem idxA1 (w : World) : (Instr.index 37 (.agg #[.string { data := #[] }, .string { data := #[95, 32] }, .string { data := #[46, 32] }, .string { data := #[110, 32] }]) (.int .i64 1)).run Tryd.prog w = .ok (.string { data := #[95, 32] }) w := by kernel_rfl
theorem idxA2 (w : World) : (Instr.index 37 (.agg #[.string { data := #[] }, .string { data := #[95, 32] }, .string { data := #[46, 32] }, .string { data := #[110, 32] }]) (.int .i64 2)).run Tryd.prog w = .ok (.string { data := #[46, 32] }) w := by kernel_rfl
theorem idxA3 (w : World) : (Instr.index 37 (.agg #[.string { data := #[] }, .string { data := #[95, 32] }, .string { data := #[46, 32] }, .string { data := #[110, 32] }]) (.int .i64 3)).run Tryd.prog w = .ok (.string { data := #[110, 32] }) w := by kernel_rfl
theorem idxB0 (w : World) : (Instr.index 37 (.agg #[.string { data := #[] }, .string { data := #[95] }, .string { data := #[46] }, .string { data := #[110] }]) (.int .i64 0)).run Tryd.prog w = .ok (.string { data := #[] }) w := by kernel_rfl
theorem idxB1 (w : World) : (Instr.index 37 (.agg #[.string { data := #[] }, .string { data := #[95] }, .string { data := #[46] }, .string { data := #[110] }]) (.int .i64 1)).run Tryd.prog w = .ok (.string { data := #[95] }) w := by kernel_rfl
theorem idxB2 (w : World) : (Instr.index 37 (.agg #[.string { data := #[] }, .string { data := #[95] }, .string { data := #[46] }, .string { data := #[110] }]) (.int .i64 2)).run Tryd.prog w = .ok (.string { data := #[46] }) w := by kernel_rfl
theorem idxB3 (w : World) : (Instr.index 37 (.agg #[.string { data := #[] }, .string { data := #[95] }, .string { data := #[46] }, .string { data := #[110] }]) (.int .i64 3)).run Tryd.prog w = .ok (.string { data := #[110] }) w := by kernel_rfl
theorem wpQuiet_idx {C : World → Prop} {ops : Array Oper} {rest : List Oper} {o : Oper} {a : Act} {Q : Act → Prop} (hw : Region.wanted o (yielded ops a.tmps) = true) (x ix : Operand) (ho : o.op = .index 37 x ix)
    (V : Value) (z : Int) (v : Value) (hx : a.eval x = V) (hi : a.eval ix = .int .i64 z) (hr : ∀ w, (Instr.index 37 V (.int .i64 z)).run Tryd.prog w = .ok v w)
    (h : wpQuiet Tryd.prog ops C Q rest (a.put o.dst v)) : wpQuiet Tryd.prog ops C Q (o :: rest) a := by
  refine Go.BigFrame.wpQuiet_want hw fun K hK => ⟨_, fun w hw => ?_, hK _ h⟩
  unfold Oper.quietAt execOp
  simp only [ho, hx, hi, Sem.run_bind, Sem.run_pure, Result.andThen_ok, hr w]
  exact ⟨rfl, rfl⟩
/-- Which name stands ahead of a path, by its number. -/
def cOf (z : Int) : Nat := ((IntKind.u64.wrap z).tmod 4).toNat
theorem cOf_lt (z : Int) : (IntKind.u64.wrap z).tmod 4 = (cOf z : Int) ∧ cOf z < 4 := by
  have h0 : 0 ≤ IntKind.u64.wrap z := by
    have e : IntKind.u64.wrap z = z % (2 ^ 64 : Int) := rfl
    rw [e]; exact Int.emod_nonneg _ (by decide)
  have h1 := Int.tmod_nonneg 4 h0
  have h2 := Int.tmod_lt_of_pos (IntKind.u64.wrap z) (show (0 : Int) < 4 by decide)
  unfold cOf
  omega
def ilOf (ps : List ByteArray) (zs : List Int) : Il := List.zipWith (fun p z => (cOf z, p)) ps zs
theorem ilOf_len {ps : List ByteArray} {zs : List Int} (h : ps.length ≤ zs.length) : (ilOf ps zs).length = ps.length := by
  unfold ilOf; rw [List.length_zipWith]; omega
theorem ilOf_get {ps : List ByteArray} {zs : List Int} {k : Nat} (hk : k < ps.length) (hz : k < zs.length) (h : k < (ilOf ps zs).length) : (ilOf ps zs)[k] = (cOf zs[k], ps[k]) := by
  exact List.getElem_zipWith (f := fun p z => (cOf z, p)) (l := ps) (l' := zs) (h := h)
theorem ilOf_good {ps : List ByteArray} {zs : List Int} (h : ∀ p ∈ ps, Aln p ∧ p ≠ ⟨#[]⟩) : GoodI (ilOf ps zs) := fun x hx => by
  obtain ⟨i, hi, rfl⟩ := List.mem_iff_getElem.1 hx
  have hi2 := hi
  unfold ilOf at hi2
  rw [List.length_zipWith] at hi2
  rw [ilOf_get (by omega) (by omega)]
  exact h _ (List.getElem_mem _)
/-- A text that grows piece by piece. -/
structure MkTx {α : Type} (base : List UInt8) (f : α → List UInt8) (l : List α) (k : Nat) (a : ByteArray) : Prop where
  e : a.data.toList = base ++ (l.take k).flatMap f
  z : a.size ≤ 2000 + base.length + 500 * k
theorem MkTx.next {α : Type} {base : List UInt8} {f : α → List UInt8} {l : List α} {k : Nat} {a a' : ByteArray} (h : MkTx base f l k a) (hk : k < l.length) (he : a'.data.toList = a.data.toList ++ f l[k]) (hf : (f l[k]).length ≤ 500) : MkTx base f l (k + 1) a' := by
  refine ⟨?_, ?_⟩
  · rw [he, h.e, List.take_succ_eq_append_getElem hk, List.flatMap_append, List.flatMap_singleton, List.append_assoc]
  · have hz := h.z
    rw [Lib.size_eq] at hz ⊢
    rw [he, List.length_append]
    omega
theorem MkTx.start {α : Type} {base : List UInt8} {f : α → List UInt8} {l : List α} {a : ByteArray} (h : a.data.toList = base) : MkTx base f l 0 a :=
  ⟨by rw [h]; simp, by rw [Lib.size_eq, h]; omega⟩
theorem MkTx.all {α : Type} {base : List UInt8} {f : α → List UInt8} {l : List α} {k : Nat} {a : ByteArray} (h : MkTx base f l k a) (hk : k = l.length) : a.data.toList = base ++ l.flatMap f := by
  rw [h.e, hk, List.take_length]
theorem nmS_len (c : Nat) : (nmS c).length ≤ 2 := by
  unfold nmS
  split
  · decide
  · split
    · decide
    · split <;> decide
theorem impS_len {x : Nat × ByteArray} (h : x.2.size ≤ 100) : (impS x).length ≤ 400 := by
  have := nmS_len x.1
  have e : x.2.data.toList.length = x.2.size := by rw [Lib.size_eq]
  simp [impS]; omega
theorem impL_len {x : Nat × ByteArray} (h : x.2.size ≤ 100) : (impL x).length ≤ 500 := by
  have := impS_len h
  simp [impL]; omega
theorem embS_len {x : ByteArray} (h : x.size ≤ 100) : (embS x).length ≤ 500 := by
  have e : x.data.toList.length = x.size := by rw [Lib.size_eq]
  simp [embS, txtE]; omega
set_option maxRecDepth 100000 in
set_option maxHeartbeats 16000000 in
theorem makes_walk (nm bd : ByteArray) (pv nv qv : Value) (ps : List ByteArray) (zs : List Int) (qs : List ByteArray) (g : Bool) (w : World) (hn0 : nm.size ≤ 140737488351232) (hb0 : bd.size ≤ 140737488351232)
    (hP : Strs w pv ps) (hpz : ∀ s ∈ ps, s.size ≤ 140737488351232) (hpl : ps.length ≤ 9223372036854775807) (hZ : Ints w nv zs) (hzl : zs.length ≤ 9223372036854775807)
    (hQ : Strs w qv qs) (hqz : ∀ s ∈ qs, s.size ≤ 140737488351232) (hql : qs.length ≤ 9223372036854775807) (hTab : Tabs w) :
    Calls Tryd.prog 9 #[.string nm, .string bd, pv, nv, qv, .bool g] w (LawEnd w) := by
  have HPL0 := Lib.hid (strs_lat hP)
  have HQL0 := Lib.hid (strs_lat hQ)
  obtain ⟨pp, pc, rfl, hpp⟩ := strs_shape hP
  obtain ⟨zp, zc, rfl, hzp⟩ := ints_shape hZ
  obtain ⟨qp, qc, rfl, hqp⟩ := strs_shape hQ
  have HA := Lib.hid (alive12_any w hTab)
  have HT := Lib.hid hTab
  have HPL := Lib.hid (fun (x : ByteArray) w1 (h : x.size ≤ 1000000000000000) => plainW_any x w1 h)
  have HO := Lib.hid (fun w1 => open_any nm w1)
  have HX := Lib.hid (fun (x : ByteArray) w1 (hx : x.size ≤ 1048576) (h : Below w.heap.size w w1) => parse_at x w1 hx (tabs_below HT.out h))
  have HSZ := Lib.hid (And.intro hpz hqz)
  obtain ⟨len, hlen⟩ : ∃ len, len = ps.length := ⟨_, rfl⟩
  obtain ⟨zl, hzlen⟩ : ∃ len, len = zs.length := ⟨_, rfl⟩
  obtain ⟨ql, hqlen⟩ : ∃ len, len = qs.length := ⟨_, rfl⟩
  have HPP := Lib.hid (fun h : 0 < len => hpp (by omega))
  have HZP := Lib.hid (fun h : 0 < zl => hzp (by omega))
  have HQP := Lib.hid (fun h : 0 < ql => hqp (by omega))
  rw [← hlen] at hpl HPL0
  rw [← hzlen] at hzl
  rw [← hqlen] at hql HQL0
  rw [← hlen, ← hzlen, ← hqlen]
  have HLN := Lib.hid (And.intro hlen (And.intro hzlen hqlen))
  clear hTab hP hpz hpp hlen hZ hzp hzlen hQ hqz hqp hqlen
  go_enter Tryd.func9, Tryd.ntmps9
  go_wp2_with fail
  refine HA.out.mono ?_
  rintro r w1 ⟨rfl, hB⟩
  have HB := Lib.hid hB
  clear hB
  by_cases h1 : 200 < nm.size + bd.size
  · have h1I : (200 : Int) < (nm.size : Int) + (bd.size : Int) := by omega
    have h1d : decide (200 < nm.size + bd.size) = true := decide_eq_true h1
    have h1e : decide ((200 : Int) < (nm.size : Int) + (bd.size : Int)) = true := decide_eq_true h1I
    go_wp2_with fail
    go_ret
    exact ⟨rfl, HB.out⟩
  have h1I : ¬ (200 : Int) < (nm.size : Int) + (bd.size : Int) := by omega
  have h1d : decide (200 < nm.size + bd.size) = false := decide_eq_false h1
  have h1e : decide ((200 : Int) < (nm.size : Int) + (bd.size : Int)) = false := decide_eq_false h1I
  by_cases h2 : 20 < len
  · have h2I : (20 : Int) < (len : Int) := by omega
    have h2d : decide (20 < len) = true := decide_eq_true h2
    go_wp2_with fail
    go_ret
    exact ⟨rfl, HB.out⟩
  have h2I : ¬ (20 : Int) < (len : Int) := by omega
  have h2d : decide (20 < len) = false := decide_eq_false h2
  by_cases h3 : zl < len
  · have h3I : (zl : Int) < (len : Int) := by omega
    have h3d : decide (zl < len) = true := decide_eq_true h3
    go_wp2_with fail
    go_ret
    exact ⟨rfl, HB.out⟩
  have h3I : ¬ (zl : Int) < (len : Int) := by omega
  have h3d : decide (zl < len) = false := decide_eq_false h3
  by_cases h4 : 20 < ql
  · have h4I : (20 : Int) < (ql : Int) := by omega
    have h4d : decide (20 < ql) = true := decide_eq_true h4
    go_wp2_with fail
    go_ret
    exact ⟨rfl, HB.out⟩
  have h4I : ¬ (20 : Int) < (ql : Int) := by omega
  have h4d : decide (20 < ql) = false := decide_eq_false h4
  go_upto_region 5 with fail
  clear h1I h1d h1e h2I h2d h3I h3d h4I h4d
  have hbd2 : bd.size ≤ 200 := by omega
  have hnm2 : nm.size ≤ 200 := by omega
  have hpl2 : ps.length ≤ 20 := by have := HLN.out.1; omega
  have hql2 : qs.length ≤ 20 := by have := HLN.out.2.2; omega
  have HbA := Lib.hid ((Below.refl w1.heap.size w1).alloc (Nat.le_refl _) (.cells #[.string nm, .string (({ data := #[120] } : ByteArray) ++ bd)] 9))
  have HO1 := Lib.hid (own_two (w := w1) nm (({ data := #[120] } : ByteArray) ++ bd))
  have HL1 := Lib.hid ((HPL0.out.below HB.out).below HbA.out)
  have HL2 := Lib.hid (HQL0.out.below HB.out)
  have Hb1 := Lib.hid (show ([nm, ({ data := #[120] } : ByteArray) ++ bd].length + ps.length) * 16 ≤ 140737488355328 by simp only [List.length_cons, List.length_nil]; omega)
  have Hm1 := Lib.hid (show [nm, ({ data := #[120] } : ByteArray) ++ bd].length + ps.length ≤ maxLen by unfold maxLen; simp only [List.length_cons, List.length_nil]; omega)
  have Hs1 := Lib.hid (HbA.out.size)
  have Hb2 := Lib.hid (show (([nm, ({ data := #[120] } : ByteArray) ++ bd] ++ ps).length + qs.length) * 16 ≤ 140737488355328 by simp only [List.length_cons, List.length_nil, List.length_append]; omega)
  have Hm2 := Lib.hid (show ([nm, ({ data := #[120] } : ByteArray) ++ bd] ++ ps).length + qs.length ≤ maxLen by unfold maxLen; simp only [List.length_cons, List.length_nil, List.length_append]; omega)
  obtain ⟨T, hT⟩ : ∃ T, T = [nm, ({ data := #[120] } : ByteArray) ++ bd] ++ ps ++ qs := ⟨_, rfl⟩
  have hTl : T.length ≤ 42 := by rw [hT]; simp only [List.length_cons, List.length_nil, List.length_append]; omega
  have HZT := Lib.hid (show ∀ i (h : i < T.length), T[i].size ≤ 1000000000000000 from fun i h => by
    have hm : T[i] ∈ [nm, ({ data := #[120] } : ByteArray) ++ bd] ++ ps ++ qs := hT ▸ List.getElem_mem h
    have e1 : ({ data := #[120] } : ByteArray).size = 1 := rfl
    rcases List.mem_append.1 hm with hm | hm
    · rcases List.mem_append.1 hm with hm | hm
      · rcases List.mem_cons.1 hm with e | hm
        · rw [e]; omega
        · rw [List.mem_singleton.1 hm, ByteArray.size_append, e1]; omega
      · have := HSZ.out.1 _ hm; omega
    · have := HSZ.out.2 _ hm; omega)
  have HTT := Lib.hid hT
  clear hT
  go_wp2_with (first
    | (at_builtin; (refine wpList_append_gen eltS rfl (.tmp 55) (.tmp 56) rfl rfl w1.heap.size va ([nm, ({ data := #[120] } : ByteArray) ++ bd] ++ ps) rfl HOA.out _ qs (HL2.out.below HBA.out) rfl Hb2.out Hm2.out HBA.out.size ?_; intro vb wb hob hgb; have HBB := Lib.hid (HBA.out.trans ((Below.refl _ _).grown hgb HBA.out.size (fun k hk => (HOA.out.lt k hk).1))); rw [← HTT.out] at hob; obtain ⟨pb, cb, rfl⟩ := own_sliceS hob; have HOB := Lib.hid hob; clear hob hgb))
    | (at_builtin; go_must (refine wpList_append_gen eltS rfl (.tmp 53) (.tmp 54) rfl rfl w1.heap.size _ [nm, ({ data := #[120] } : ByteArray) ++ bd] rfl HO1.out _ ps HL1.out rfl Hb1.out Hm1.out Hs1.out ?_; intro va wa hoa hga; have HBA := Lib.hid (HbA.out.trans ((Below.refl _ _).grown hga Hs1.out (fun k hk => (HO1.out.lt k hk).1))); have HOA := Lib.hid hoa; clear hoa hga))
    | fail)
  have HLT := Lib.hid (LAt.own (fl := strV) (n := 1) (fun y _ => rfl) HOB.out)
  have HBW := Lib.hid (HB.out.trans (HBB.out.mono HB.out.size))
  clear HOB HBB HOA HBA HbA HO1 HL1 HL2 Hb1 Hm1 Hs1 Hb2 Hm2
  go_loopg [14, 59] T.length (fun g _ iv wr => ∃ k : Nat, k + g = T.length ∧ iv = .int .i64 k ∧ Hid (∀ i (h : i < T.length), i < k → plainP T[i]) ∧ wr = wb)
  case atStart => exact ⟨0, by omega, rfl, Lib.hid (fun i h hk => absurd hk (Nat.not_lt_zero _)), rfl⟩
  case round =>
    obtain ⟨k, hkg, rfl, HK, rfl⟩ := hrel
    by_cases hlt : k < T.length
    · have hltI : (k : Int) < (T.length : Int) := by omega
      obtain ⟨bb, off, rfl, hck⟩ : ∃ bb off, pb = some ⟨bb, off, none⟩ ∧ wr.cell? ⟨bb, off + k, none⟩ = some (.string T[k]) := by
        rcases HLT.out.2 with ⟨p, c, hv, h0⟩ | ⟨b, off, cap, hv, _, _, _, hc⟩
        · exfalso; rw [h0] at hlt; cases hlt
        · injection hv with hv1 hv2 hv3
          exact ⟨b, off, hv1, hc k _ (by rw [LF_str, List.getElem?_map, List.getElem?_eq_getElem hlt]; rfl)⟩
      have hz := HZT.out k hlt
      have HN := Lib.hid (fun (hx : plainP T[k]) => show ∀ i (h : i < T.length), i < k + 1 → plainP T[i] from fun i h hik => by
        rcases Nat.lt_or_ge i k with h1 | h1
        · exact HK.out i h h1
        · obtain rfl : i = k := by omega
          exact hx)
      generalize T[k] = x at *
      go_wp2_with fail
      refine (HPL.out _ _ hz).mono ?_
      rintro r w3 ⟨⟨bl, rfl, hb⟩, rfl⟩
      have Hb := Lib.hid hb
      clear hb
      cases bl with
      | false =>
        go_wp2_with fail
        go_ret
        exact ⟨rfl, HBW.out⟩
      | true =>
        have HN2 := Lib.hid (HN.out (Hb.out.1 rfl))
        clear Hb
        go_wp2_with fail
        go_roundg (gk - 1)
        case measure => omega
        case rel => exact ⟨k + 1, by omega, by go_num, HN2, rfl⟩
    have hnI : ¬ (k : Int) < (T.length : Int) := by omega
    have HPA := Lib.hid (show ∀ x ∈ T, plainP x from fun x hx => by
      obtain ⟨i, hi, rfl⟩ := List.mem_iff_getElem.1 hx
      exact HK.out i hi (by omega))
    have HPn := Lib.hid (HPA.out nm (by rw [HTT.out]; simp))
    have HPb := Lib.hid (plain_x (HPA.out (({ data := #[120] } : ByteArray) ++ bd) (by rw [HTT.out]; simp)))
    have HPp := Lib.hid (show ∀ p ∈ ps, plainP p from fun p hp => HPA.out p (by rw [HTT.out]; simp [hp]))
    have HPq := Lib.hid (show ∀ p ∈ qs, plainP p from fun p hp => HPA.out p (by rw [HTT.out]; simp [hp]))
    clear HPA HK
    have hbb : ∃ jb, jb = joinsB nm := ⟨_, rfl⟩
    obtain ⟨jb, hjb⟩ := hbb
    have HJ := Lib.hid hjb
    have HO2 := Lib.hid (fun w1 => HO.out w1)
    rw [← hjb] at HO2
    clear hjb
    go_wp2_with fail
    refine (HO2.out _).mono ?_
    rintro r w5 ⟨rfl, hB⟩
    have HBX := Lib.hid (HBW.out.trans (hB.mono HBW.out.size))
    clear hB
    cases jb with
    | true =>
      go_wp2_with fail
      go_ret
      exact ⟨rfl, HBX.out⟩
    | false =>
    have kb1 := str_lit nm #[98, 114, 101, 97, 107]
    by_cases eb1 : nm = ⟨#[98, 114, 101, 97, 107]⟩
    · rw [decide_eq_true eb1] at kb1
      clear eb1
      go_wp2_with fail
      go_ret
      exact ⟨rfl, HBX.out⟩
    rw [decide_eq_false eb1] at kb1
    have Eb1 := Lib.hid eb1
    clear eb1
    have kb2 := str_lit nm #[99, 111, 110, 116, 105, 110, 117, 101]
    by_cases eb2 : nm = ⟨#[99, 111, 110, 116, 105, 110, 117, 101]⟩
    · rw [decide_eq_true eb2] at kb2
      clear eb2
      go_wp2_with fail
      go_ret
      exact ⟨rfl, HBX.out⟩
    rw [decide_eq_false eb2] at kb2
    have Eb2 := Lib.hid eb2
    clear eb2
    have kb3 := str_lit nm #[102, 97, 108, 108, 116, 104, 114, 111, 117, 103, 104]
    by_cases eb3 : nm = ⟨#[102, 97, 108, 108, 116, 104, 114, 111, 117, 103, 104]⟩
    · rw [decide_eq_true eb3] at kb3
      clear eb3
      go_wp2_with fail
      go_ret
      exact ⟨rfl, HBX.out⟩
    rw [decide_eq_false eb3] at kb3
    have Eb3 := Lib.hid eb3
    clear eb3
    have kb4 := str_lit nm #[114, 101, 116, 117, 114, 110]
    by_cases eb4 : nm = ⟨#[114, 101, 116, 117, 114, 110]⟩
    · rw [decide_eq_true eb4] at kb4
      clear eb4
      go_wp2_with fail
      go_ret
      exact ⟨rfl, HBX.out⟩
    rw [decide_eq_false eb4] at kb4
    have Eb4 := Lib.hid eb4
    clear eb4
    have hsz : 0 < nm.size := by
      rcases Nat.eq_zero_or_pos nm.size with h | h
      · exact absurd (ba_ext (List.eq_nil_of_length_eq_zero (by rw [← Lib.size_eq]; exact h))) HPn.out.2.1
      · exact h
    have hc : byt nm 0 = nm[0].toNat := by unfold byt; rw [get_is nm 0 hsz]
    have hal := HPn.out.1 0 hsz
    rw [hc] at hal
    have hszI : (0 : Int) < (nm.size : Int) := by omega
    by_cases h48 : 48 ≤ nm[0].toNat
    case neg =>
      exfalso
      unfold alnum at hal
      simp at hal
      omega
    by_cases h57 : nm[0].toNat ≤ 57
    · have h48I : (48 : Int) ≤ (nm[0].toNat : Int) := by omega
      have h57I : (nm[0].toNat : Int) ≤ (57 : Int) := by omega
      have h48d : decide (48 ≤ nm[0].toNat) = true := decide_eq_true h48
      have h57d : decide (nm[0].toNat ≤ 57) = true := decide_eq_true h57
      clear hc hal
      go_wp2_with fail
      go_ret
      exact ⟨rfl, HBX.out⟩
    have h48I : (48 : Int) ≤ (nm[0].toNat : Int) := by omega
    have h57I : ¬ (nm[0].toNat : Int) ≤ (57 : Int) := by omega
    have h48d : decide (48 ≤ nm[0].toNat) = true := decide_eq_true h48
    have h57d : decide (nm[0].toNat ≤ 57) = false := decide_eq_false h57
    have HD := Lib.hid (show ¬ (48 ≤ byt nm 0 ∧ byt nm 0 ≤ 57) by rw [hc]; omega)
    clear hc hal
    go_upto_region 14 with fail
    clear h48I h57I h48d h57d h48 h57 hszI
    have kb := str_lit bd #[]
    have kb2 : bd.toList.isEmpty = decide (bd = ⟨#[]⟩) := by rw [← kb]; cases bd.toList <;> rfl
    have hbs := HPb.out.2
    have hns := HPn.out.2.2

    obtain ⟨a0, hE, hN⟩ : ∃ a0 : ByteArray, (bd = ⟨#[]⟩ → a0 = ⟨#[]⟩) ∧ (bd ≠ ⟨#[]⟩ → a0 = (({ data := #[47, 47, 103, 111, 58, 98, 117, 105, 108, 100, 32] } : ByteArray) ++ bd) ++ { data := #[10, 10] }) := by
      by_cases h : bd = ⟨#[]⟩
      · exact ⟨⟨#[]⟩, fun _ => rfl, fun k => absurd h k⟩
      · exact ⟨_, fun k => absurd k h, fun _ => rfl⟩
    have HE := Lib.hid hE
    have HN := Lib.hid hN
    clear hE hN
    go_upto_if 96 with fail
    go_cut [15] from 96 to 99 (fun v wx => v = .string a0 ∧ wx = w5)
    case first =>
      by_cases hbd0 : bd = ⟨#[]⟩
      · rw [decide_eq_true hbd0] at kb kb2
        have he := HE.out hbd0
        have hdd : decide (bd = ({ data := #[] } : ByteArray)) = true := decide_eq_true hbd0
        have hde : (!decide (bd = ({ data := #[] } : ByteArray))) = false := by rw [hdd]; rfl
        clear kb kb2 hdd hbd0
        generalize (!decide (bd = ({ data := #[] } : ByteArray))) = bb at *
        subst hde
        go_wp2_with fail
        go_meet
        exact ⟨by rw [he], rfl⟩
      · rw [decide_eq_false hbd0] at kb kb2
        have he := HN.out hbd0
        have hdd : decide (bd = ({ data := #[] } : ByteArray)) = false := decide_eq_false hbd0
        have hde : (!decide (bd = ({ data := #[] } : ByteArray))) = true := by rw [hdd]; rfl
        clear kb kb2 hdd hbd0
        generalize (!decide (bd = ({ data := #[] } : ByteArray))) = bb at *
        subst hde
        go_wp2_with fail
        go_meet
        exact ⟨by rw [he], rfl⟩
    case rest =>
      obtain ⟨rfl, rfl⟩ := hcut
      have HA0 := Lib.hid (show a0.data.toList = bldS bd by
        by_cases h : bd = ⟨#[]⟩
        · rw [HE.out h]; unfold bldS; rw [if_pos h]
        · rw [HN.out h]; unfold bldS; rw [if_neg h]; simp [txtB])
      have hz0 : a0.size ≤ 300 := by
        rw [Lib.size_eq, HA0.out]
        unfold bldS
        split
        · exact Nat.zero_le _
        · have : bd.data.toList.length = bd.size := by rw [Lib.size_eq]
          simp [txtB]; omega
      clear HE HN kb kb2 hbs
      have hz1 : (⟨#[112, 97, 99, 107, 97, 103, 101, 32]⟩ : ByteArray).size = 8 := rfl
      have hz2 : (⟨#[10, 10]⟩ : ByteArray).size = 2 := rfl
      go_upto_region 17 with fail
      have HT1 := Lib.hid (show (a0 ++ ({ data := #[112, 97, 99, 107, 97, 103, 101, 32] } : ByteArray) ++ nm ++ { data := #[10, 10] }).data.toList = bldS bd ++ ([112, 97, 99, 107, 97, 103, 101, 32] ++ (nm.data.toList ++ [10, 10])) ∧ (a0 ++ ({ data := #[112, 97, 99, 107, 97, 103, 101, 32] } : ByteArray) ++ nm ++ { data := #[10, 10] }).size ≤ 500 by
        refine ⟨by simp [HA0.out], ?_⟩
        simp only [ByteArray.size_append]
        omega)
      generalize (a0 ++ ({ data := #[112, 97, 99, 107, 97, 103, 101, 32] } : ByteArray) ++ nm ++ { data := #[10, 10] }) = a1 at *
      clear hz1 hz2 hz0 HA0
      have hbase0 : (bldS bd ++ ([112, 97, 99, 107, 97, 103, 101, 32] ++ (nm.data.toList ++ [10, 10]))).length ≤ 500 := by rw [← HT1.out.1, ← Lib.size_eq]; exact HT1.out.2
      obtain ⟨base0, hb0e⟩ : ∃ b, b = bldS bd ++ ([112, 97, 99, 107, 97, 103, 101, 32] ++ (nm.data.toList ++ [10, 10])) := ⟨_, rfl⟩
      rw [← hb0e] at HT1 hbase0
      have HB0 := Lib.hid hb0e
      have hil : (ilOf ps zs).length = len := by have h1 := HLN.out.1; have h2 := HLN.out.2.1; rw [ilOf_len (by omega)]; omega
      have Hil := Lib.hid hil
      have HPS := Lib.hid (show ∀ k (h : k < ps.length), ps[k].size ≤ 100 from fun k h => (HPp.out _ (List.getElem_mem h)).2.2)
      have HQS := Lib.hid (show ∀ k (h : k < qs.length), qs[k].size ≤ 100 from fun k h => (HPq.out _ (List.getElem_mem h)).2.2)
      have hlen20 : len ≤ 20 := by omega
      have hql20 : ql ≤ 20 := by omega
      clear hb0e hil HSZ HLT HZT HTT
      cases g with
      | true =>
        have hz3 : (⟨#[105, 109, 112, 111, 114, 116, 32, 40, 10]⟩ : ByteArray).size = 9 := rfl
        have hz9 := HT1.out.2
        go_upto_region 19 with fail
        have HM0 := Lib.hid (MkTx.start (f := impS) (l := ilOf ps zs) (a := a1 ++ ({ data := #[105, 109, 112, 111, 114, 116, 32, 40, 10] } : ByteArray)) (show _ = base0 ++ [105, 109, 112, 111, 114, 116, 32, 40, 10] by simp [HT1.out.1]))
        have hbl : (base0 ++ [105, 109, 112, 111, 114, 116, 32, 40, 10]).length ≤ 600 := by simp; omega
        generalize a1 ++ ({ data := #[105, 109, 112, 111, 114, 116, 32, 40, 10] } : ByteArray) = a2 at *
        clear hz3 hz9
        obtain ⟨base1, hb1⟩ : ∃ b, b = base0 ++ [105, 109, 112, 111, 114, 116, 32, 40, 10] := ⟨_, rfl⟩
        rw [← hb1] at HM0 hbl
        have HB1 := Lib.hid hb1
        clear hb1
        go_wp2_with fail
        go_loopg [15, 16, 17, 110] len (fun g va _ _ iv wr => ∃ (k : Nat) (a : ByteArray), k + g = len ∧ va = .string a ∧ iv = .int .i64 k ∧ Hid (MkTx base1 impS (ilOf ps zs) k a) ∧ wr = wc)
        case atStart => exact ⟨0, _, by omega, rfl, rfl, HM0, rfl⟩
        case round =>
          obtain ⟨k, a, hkg, rfl, rfl, HR, rfl⟩ := hrel
          have has := HR.out.z
          by_cases hlt : k < len
          · have hltI : (k : Int) < (len : Int) := by omega
            obtain ⟨bb, off, rfl, hbl1, hc⟩ := HPP.out (by omega)
            obtain ⟨bz, oz, rfl, hbz, hcz⟩ := HZP.out (by omega)
            have hk : k < ps.length := by have := HLN.out.1; omega
            have hkz : k < zs.length := by have := HLN.out.2.1; omega
            have ck := (HBX.out.cell (p := ⟨bb, off + k, none⟩) hbl1).trans (hc k hk)
            have ckz := (HBX.out.cell (p := ⟨bz, oz + k, none⟩) hbz).trans (hcz k hkz)
            have hps := HPS.out k hk
            have hki : k < (ilOf ps zs).length := by rw [Hil.out]; exact hlt
            have HNX := Lib.hid (show ∀ a' : ByteArray, a'.data.toList = a.data.toList ++ impS (cOf zs[k], ps[k]) → MkTx base1 impS (ilOf ps zs) (k + 1) a' from fun a' he => HR.out.next hki (by rw [ilOf_get hk hkz]; exact he) (by rw [ilOf_get hk hkz]; have := impS_len (x := (cOf zs[k], ps[k])) hps; omega))
            have hcw := cOf_lt zs[k]
            clear hc hcz hki
            generalize ps[k] = x at *
            generalize zs[k] = z at *
            obtain ⟨hcw, hc4⟩ := hcw
            have e1 : (⟨#[105, 109, 112, 111, 114, 116, 32]⟩ : ByteArray).size = 7 := rfl
            have e2 : (⟨#[34]⟩ : ByteArray).size = 1 := rfl
            have e3 : (⟨#[34, 10]⟩ : ByteArray).size = 2 := rfl
            have e4 : (⟨#[95, 32]⟩ : ByteArray).size = 2 := rfl
            have e5 : (⟨#[46, 32]⟩ : ByteArray).size = 2 := rfl
            have e6 : (⟨#[110, 32]⟩ : ByteArray).size = 2 := rfl
            have e7 : (⟨#[]⟩ : ByteArray).size = 0 := rfl
            rcases (show cOf z = 0 ∨ cOf z = 1 ∨ cOf z = 2 ∨ cOf z = 3 by omega) with hcc | hcc | hcc | hcc
            · rw [hcc] at hcw HNX
              have hcw2 : wrap64 ((IntKind.u64.wrap z).tmod 4) = 0 := by rw [hcw]; unfold wrap64; omega
              have hidx := idxA0
              clear hcc hc4
              go_wp2_with fail
              go_roundg (gk - 1)
              case measure => omega
              case rel => exact ⟨k + 1, _, by omega, rfl, by go_num, Lib.hid (HNX.out _ (by simp [impS, nmS])), rfl⟩
            · rw [hcc] at hcw HNX
              have hcw2 : wrap64 ((IntKind.u64.wrap z).tmod 4) = 1 := by rw [hcw]; unfold wrap64; omega
              have hidx := idxA1
              clear hcc hc4
              go_wp2_with fail
              go_roundg (gk - 1)
              case measure => omega
              case rel => exact ⟨k + 1, _, by omega, rfl, by go_num, Lib.hid (HNX.out _ (by simp [impS, nmS])), rfl⟩
            · rw [hcc] at hcw HNX
              have hcw2 : wrap64 ((IntKind.u64.wrap z).tmod 4) = 2 := by rw [hcw]; unfold wrap64; omega
              have hidx := idxA2
              clear hcc hc4
              go_wp2_with fail
              go_roundg (gk - 1)
              case measure => omega
              case rel => exact ⟨k + 1, _, by omega, rfl, by go_num, Lib.hid (HNX.out _ (by simp [impS, nmS])), rfl⟩
            · rw [hcc] at hcw HNX
              have hcw2 : wrap64 ((IntKind.u64.wrap z).tmod 4) = 3 := by rw [hcw]; unfold wrap64; omega
              have hidx := idxA3
              clear hcc hc4
              go_wp2_with fail
              go_roundg (gk - 1)
              case measure => omega
              case rel => exact ⟨k + 1, _, by omega, rfl, by go_num, Lib.hid (HNX.out _ (by simp [impS, nmS])), rfl⟩
          have hnI : ¬ (k : Int) < (len : Int) := by omega
          have hal := HR.out.all (by rw [Hil.out]; omega)
          have hz3 : (⟨#[41, 10]⟩ : ByteArray).size = 2 := rfl
          go_upto_region 28 with fail
          have HM3 := Lib.hid (MkTx.start (f := embS) (l := qs) (a := a ++ ({ data := #[41, 10] } : ByteArray)) (show _ = base0 ++ impsS true (ilOf ps zs) by simp [hal, HB1.out, impsS]))
          have hb3 : (base0 ++ impsS true (ilOf ps zs)).length ≤ 20000 := by
            have h := congrArg List.length (show (a ++ ({ data := #[41, 10] } : ByteArray)).data.toList = base0 ++ impsS true (ilOf ps zs) by simp [hal, HB1.out, impsS])
            rw [← h, ← Lib.size_eq, ByteArray.size_append, hz3]; omega
          generalize a ++ ({ data := #[41, 10] } : ByteArray) = a3 at *
          clear hz3
          obtain ⟨base3, hb3e⟩ : ∃ b, b = base0 ++ impsS true (ilOf ps zs) := ⟨_, rfl⟩
          rw [← hb3e] at HM3 hb3
          have HB3 := Lib.hid hb3e
          clear hb3e hal has HR
          go_wp2_with fail
          go_loopg [15, 19, 140] ql (fun g va _ iv wr' => ∃ (k : Nat) (a : ByteArray), k + g = ql ∧ va = .string a ∧ iv = .int .i64 k ∧ Hid (MkTx base3 embS qs k a) ∧ wr' = wr)
          case atStart => exact ⟨0, _, by omega, rfl, rfl, HM3, rfl⟩
          case round =>
            obtain ⟨j, aj, hjg, rfl, rfl, HRj, rfl⟩ := hrel
            have has := HRj.out.z
            by_cases hlt : j < ql
            · have hltI : (j : Int) < (ql : Int) := by omega
              obtain ⟨bb, off, rfl, hbl1, hc⟩ := HQP.out (by omega)
              have hk : j < qs.length := by have := HLN.out.2.2; omega
              have ck := (HBX.out.cell (p := ⟨bb, off + j, none⟩) hbl1).trans (hc j hk)
              have hps := HQS.out j hk
              have HNX := Lib.hid (show ∀ a' : ByteArray, a'.data.toList = aj.data.toList ++ embS qs[j] → MkTx base3 embS qs (j + 1) a' from fun a' he => HRj.out.next hk he (embS_len hps))
              clear hc
              generalize qs[j] = x at *
              have e1 : (⟨#[47, 47, 103, 111, 58, 101, 109, 98, 101, 100, 32]⟩ : ByteArray).size = 11 := rfl
              have e2 : (⟨#[10]⟩ : ByteArray).size = 1 := rfl
              go_wp2_with fail
              go_roundg (gk - 1)
              case measure => omega
              case rel => exact ⟨j + 1, _, by omega, rfl, by go_num, Lib.hid (HNX.out _ (by simp [embS, txtE])), rfl⟩
            have hnI : ¬ (j : Int) < (ql : Int) := by omega
            have hal := HRj.out.all (by have := HLN.out.2.2; omega)
            have z10 : (⟨#[118, 97, 114, 32, 120, 32, 105, 110, 116, 10]⟩ : ByteArray).size = 10 := rfl
            have hqg : ∀ p ∈ qs, Aln p ∧ p ≠ ⟨#[]⟩ := fun p hp => plain_aln (HPq.out p hp)
            obtain ⟨J, hJp, hJm⟩ := parse_makes (s := aj ++ ({ data := #[118, 97, 114, 32, 120, 32, 105, 110, 116, 10] } : ByteArray)) (nm := nm) (b := bd) (l := ilOf ps zs) (ps := qs) (g := true) (by simp [hal, HB3.out, HB0.out, textM]) (plain_aln HPn.out).1 (plain_aln HPn.out).2 HD.out HJ.out.symm (key_of Eb1.out Eb2.out Eb3.out Eb4.out HJ.out.symm) HPb.out.1 (ilOf_good (fun p hp => plain_aln (HPp.out p hp))) hqg
            have hjl : j ≤ 20 := by omega
            have hsz2 : (aj ++ ({ data := #[118, 97, 114, 32, 120, 32, 105, 110, 116, 10] } : ByteArray)).size ≤ 1048576 := by rw [ByteArray.size_append, z10]; omega
            have HXA := Lib.hid (fun w1 (h : Below w.heap.size w w1) => HX.out (aj ++ ({ data := #[118, 97, 114, 32, 120, 32, 105, 110, 116, 10] } : ByteArray)) w1 hsz2 h)
            rw [hJp] at HXA
            have hpb := parse_b _ hsz2
            rw [hJp] at hpb
            have hJl : J.length = len := by have := congrArg List.length hJm; rw [List.length_map, List.length_map, Hil.out] at this; exact this
            have HJB := Lib.hid (show ∀ k (h : k < J.length), J[k].1.size ≤ 4194304 ∧ J[k].2.1.size ≤ 4194304 ∧ J[k].2.2 ≤ 4194304 from fun k h => hpb.im _ (List.getElem_mem h))
            have HJK := Lib.hid (show ∀ k (h : k < J.length) (hk : k < ps.length) (hz : k < zs.length), J[k].1 = ⟨(nmT (cOf zs[k])).toArray⟩ ∧ J[k].2.1 = ps[k] from fun k h hk hz => by
              have h1 : (J.map nmOf)[k]? = some (nmOf J[k]) := by rw [List.getElem?_map, List.getElem?_eq_getElem h]; rfl
              have hki : k < (ilOf ps zs).length := by rw [Hil.out, ← hJl]; exact h
              rw [hJm, List.getElem?_map, List.getElem?_eq_getElem hki, ilOf_get hk hz] at h1
              have h1 := Option.some.inj h1
              have e1 := congrArg Prod.fst h1
              have e2 := congrArg Prod.snd h1
              exact ⟨e1.symm, e2.symm⟩)
            have HJL := Lib.hid hJl
            clear hJp hJm hpb hqg hsz2 hal hJl HX
            go_wp2_with fail
            refine (HXA.out _ HBX.out).mono ?_
            rintro r w7 ⟨v7, rfl, ⟨iv, ev, rfl, hi, he⟩, hB⟩
            dsimp only at hi he
            obtain ⟨pe, ce, rfl, hpe⟩ := lat_shape he
            obtain ⟨pi, ci, rfl, hpi⟩ := lat_shape hi
            have HPI := Lib.hid (fun h : 0 < len => hpi (by rw [HJL.out]; exact h))
            have HPE := Lib.hid (fun h : 0 < ql => hpe (by rw [← HLN.out.2.2]; exact h))
            rw [HJL.out] at hi
            rw [← HLN.out.2.2] at he
            dsimp only
            rw [HJL.out, ← HLN.out.2.2]
            have HB7 := Lib.hid (HBX.out.trans (hB.mono HBX.out.size))
            have hn1 := heap_alloc_new w7 (.cells #[.string nm, .slice pi len ci, .string bd, .slice pe ql ce, .int .i64 0, .int .i64 0] 41)
            have hb3 := (Below.refl w7.heap.size w7).alloc (Nat.le_refl _) (.cells #[.string nm, .slice pi len ci, .string bd, .slice pe ql ce, .int .i64 0, .int .i64 0] 41)
            have Hn := Lib.hid hn1
            have HB8 := Lib.hid (HB7.out.trans (hb3.mono HB7.out.size))
            have HI := Lib.hid (hi.below hb3)
            have HE := Lib.hid (he.below hb3)
            clear hi he hpe hpi hB hn1 hb3
            go_upto_region 34 with fail
            generalize w7.alloc (.cells #[.string nm, .slice pi len ci, .string bd, .slice pe ql ce, .int .i64 0, .int .i64 0] 41) = w8 at *
            generalize w7.heap.size = n at *
            have c0 := block_cell Hn.out 0
            have c1 := block_cell Hn.out 1
            have c2 := block_cell Hn.out 2
            have c3 := block_cell Hn.out 3
            have c4 := block_cell Hn.out 4
            clear z10 hb3 has hnI
            go_wp2_with fail
            go_loopg [21, 22, 187] len (fun g _ _ iv wr => ∃ k : Nat, k + g = len ∧ iv = .int .i64 k ∧ Hid (Below w8.heap.size w8 wr))
            case atStart => exact ⟨0, by omega, rfl, Lib.hid (Below.refl _ _)⟩
            case round =>
              clear c0 c1 c2 c3 c4
              obtain ⟨k, hkg, rfl, HK⟩ := hrel
              by_cases hlt : k < len
              · have hltI : (k : Int) < (len : Int) := by omega
                obtain ⟨gi, oi, rfl⟩ := HPI.out (by omega)
                obtain ⟨bb, off, rfl, hbl1, hc⟩ := HPP.out (by omega)
                obtain ⟨bz, oz, rfl, hbz, hcz⟩ := HZP.out (by omega)
                have hk : k < ps.length := by have := HLN.out.1; omega
                have hkz : k < zs.length := by have := HLN.out.2.1; omega
                have hkJ : k < J.length := by rw [HJL.out]; exact hlt
                obtain ⟨hgl, i0, i1, i2⟩ := im_cell (HI.out.below HK.out) (i := k) (List.getElem?_eq_getElem hkJ)
                have hj1 := HJB.out k hkJ
                obtain ⟨q1, q2⟩ := HJK.out k hkJ hk hkz
                have HBK := Lib.hid (HB8.out.trans (HK.out.mono HB8.out.size))
                have HCK := Lib.hid (hc k hk)
                have HCZ := Lib.hid (hcz k hkz)
                have hps := HPS.out k hk
                have hcw := cOf_lt zs[k]
                have HLB := Lib.hid (And.intro hbl1 hbz)
                clear hc hcz
                generalize J[k] = y at *
                generalize ps[k] = x at *
                generalize zs[k] = z at *
                clear hkJ
                obtain ⟨y1, y2, y3⟩ := y
                dsimp only at q1 q2 i0 i1 i2 hj1
                subst q2
                have Q1 := Lib.hid q1
                clear q1
                obtain ⟨hcw, hc4⟩ := hcw
                go_upto_region 39 with fail
                have hb9 := (Below.refl wr.heap.size wr).alloc (Nat.le_refl _) (.cells #[.string y1, .string y2, .int .i64 y3] 44)
                have HB9 := Lib.hid (HK.out.trans (hb9.mono HK.out.size))
                have HBW9 := Lib.hid (HBK.out.trans (hb9.mono HBK.out.size))
                have Hbx := Lib.hid (heap_alloc_new wr (.cells #[.string y1, .string y2, .int .i64 y3] 44))
                clear hb9 i0 i1 i2
                generalize wr.alloc (.cells #[.string y1, .string y2, .int .i64 y3] 44) = w9 at *
                generalize wr.heap.size = nb at *
                have f0 : w9.cell? ⟨nb, 0, none⟩ = some (.string y1) := block_cell Hbx.out 0
                have f1 : w9.cell? ⟨nb, 1, none⟩ = some (.string y2) := block_cell Hbx.out 1
                have ck := (HBW9.out.cell (p := ⟨bb, off + k, none⟩) HLB.out.1).trans HCK.out
                have ckz := (HBW9.out.cell (p := ⟨bz, oz + k, none⟩) HLB.out.2).trans HCZ.out
                rcases (show cOf z = 0 ∨ cOf z = 1 ∨ cOf z = 2 ∨ cOf z = 3 by omega) with hcc | hcc | hcc | hcc
                · have q1 := Q1.out
                  rw [hcc] at hcw q1
                  have hcw2 : wrap64 ((IntKind.u64.wrap z).tmod 4) = 0 := by rw [hcw]; unfold wrap64; omega
                  have hidx := idxB0
                  have q1 : y1 = { data := #[] } := q1
                  subst q1
                  clear hcc hc4
                  have hltb : nb < w9.heap.size := lt_of_block Hbx.out
                  have hlb : bb < w9.heap.size := Nat.lt_of_lt_of_le HLB.out.1 HBW9.out.size
                  have hlz : bz < w9.heap.size := Nat.lt_of_lt_of_le HLB.out.2 HBW9.out.size
                  have HL1 := Lib.hid (fun w1 (hw : Below w9.heap.size w9 w1) => (by have h := (hw.cell (p := ⟨nb, 1, none⟩) hltb).trans f1; simp [go_sem, h] : (loadVar 9 ⟨nb, 1, none⟩).run Tryd.prog w1 = .ok (.string y2) w1))
                  have HL0 := Lib.hid (fun w1 (hw : Below w9.heap.size w9 w1) => (by have h := (hw.cell (p := ⟨nb, 0, none⟩) hltb).trans f0; simp [go_sem, h] : (loadVar 9 ⟨nb, 0, none⟩).run Tryd.prog w1 = .ok (.string { data := #[] }) w1))
                  have HL2 := Lib.hid (fun w1 (hw : Below w9.heap.size w9 w1) => (by have h := (hw.cell (p := ⟨bb, off + k, none⟩) hlb).trans ck; simp [go_sem, h] : (loadVar 9 ⟨bb, off + k, none⟩).run Tryd.prog w1 = .ok (.string y2) w1))
                  have HL3 := Lib.hid (fun w1 (hw : Below w9.heap.size w9 w1) => (by have h := (hw.cell (p := ⟨bz, oz + k, none⟩) hlz).trans ckz; simp [go_sem, h] : (loadVar 3 ⟨bz, oz + k, none⟩).run Tryd.prog w1 = .ok (.int .i64 z) w1))
                  clear f0 f1 ck ckz hltb hlb hlz
                  refine wp_region_class (Below w9.heap.size w9) (by kernel_rfl) (by kernel_rfl) (Below.refl _ _).drew ?_
                  repeat (go_big_quiet_step (first | (intro _; rfl)))
                  refine wpQuiet_load_at rfl 9 (.tmp 192) rfl ⟨nb, 1, none⟩ rfl (.string y2) HL1.out ?_
                  simp only [Act.put, List.setIfInBounds_toArray, List.set_cons_succ, List.set_cons_zero]
                  repeat (go_big_quiet_step (first | (intro _; rfl)))
                  refine wpQuiet_load_at rfl 9 (.tmp 196) rfl ⟨bb, off + k, none⟩ rfl (.string y2) HL2.out ?_
                  simp only [Act.put, List.setIfInBounds_toArray, List.set_cons_succ, List.set_cons_zero]
                  repeat (go_big_quiet_step (first | (intro _; rfl)))
                  refine wpQuiet_load_at (by simp [Region.wanted, yielded, Act.put]) 9 (.tmp 200) rfl ⟨nb, 0, none⟩ rfl (.string { data := #[] }) HL0.out ?_
                  simp only [Act.put, List.setIfInBounds_toArray, List.set_cons_succ, List.set_cons_zero]
                  repeat (go_big_quiet_step (first | (intro _; rfl)))
                  refine wpQuiet_load_at (by simp [Region.wanted, yielded, Act.put]) 3 (.tmp 205) rfl ⟨bz, oz + k, none⟩ rfl (.int .i64 z) HL3.out ?_
                  simp only [Act.put, List.setIfInBounds_toArray, List.set_cons_succ, List.set_cons_zero]
                  repeat (go_big_quiet_step (first | (intro _; rfl)))
                  refine wpQuiet_idx (by simp [Region.wanted, yielded, Act.put]) (.tmp 202) (.tmp 209) rfl _ 0 _ rfl rfl idxB0 ?_
                  simp only [Act.put, List.setIfInBounds_toArray, List.set_cons_succ, List.set_cons_zero]
                  repeat (go_big_quiet_step (first | (intro _; rfl)))
                  refine wpQuiet_nil ?_
                  intro wq hBq
                  have HQ9 := Lib.hid (HB9.out.trans (hBq.mono HB9.out.size))
                  clear hBq
                  go_wp2_with fail
                  go_roundg (gk - 1)
                  case measure => omega
                  case rel => exact ⟨k + 1, by omega, by go_num, HQ9⟩
                · have q1 := Q1.out
                  rw [hcc] at hcw q1
                  have hcw2 : wrap64 ((IntKind.u64.wrap z).tmod 4) = 1 := by rw [hcw]; unfold wrap64; omega
                  have hidx := idxB1
                  have q1 : y1 = { data := #[95] } := q1
                  subst q1
                  clear hcc hc4
                  have hltb : nb < w9.heap.size := lt_of_block Hbx.out
                  have hlb : bb < w9.heap.size := Nat.lt_of_lt_of_le HLB.out.1 HBW9.out.size
                  have hlz : bz < w9.heap.size := Nat.lt_of_lt_of_le HLB.out.2 HBW9.out.size
                  have HL1 := Lib.hid (fun w1 (hw : Below w9.heap.size w9 w1) => (by have h := (hw.cell (p := ⟨nb, 1, none⟩) hltb).trans f1; simp [go_sem, h] : (loadVar 9 ⟨nb, 1, none⟩).run Tryd.prog w1 = .ok (.string y2) w1))
                  have HL0 := Lib.hid (fun w1 (hw : Below w9.heap.size w9 w1) => (by have h := (hw.cell (p := ⟨nb, 0, none⟩) hltb).trans f0; simp [go_sem, h] : (loadVar 9 ⟨nb, 0, none⟩).run Tryd.prog w1 = .ok (.string { data := #[95] }) w1))
                  have HL2 := Lib.hid (fun w1 (hw : Below w9.heap.size w9 w1) => (by have h := (hw.cell (p := ⟨bb, off + k, none⟩) hlb).trans ck; simp [go_sem, h] : (loadVar 9 ⟨bb, off + k, none⟩).run Tryd.prog w1 = .ok (.string y2) w1))
                  have HL3 := Lib.hid (fun w1 (hw : Below w9.heap.size w9 w1) => (by have h := (hw.cell (p := ⟨bz, oz + k, none⟩) hlz).trans ckz; simp [go_sem, h] : (loadVar 3 ⟨bz, oz + k, none⟩).run Tryd.prog w1 = .ok (.int .i64 z) w1))
                  clear f0 f1 ck ckz hltb hlb hlz
                  refine wp_region_class (Below w9.heap.size w9) (by kernel_rfl) (by kernel_rfl) (Below.refl _ _).drew ?_
                  repeat (go_big_quiet_step (first | (intro _; rfl)))
                  refine wpQuiet_load_at rfl 9 (.tmp 192) rfl ⟨nb, 1, none⟩ rfl (.string y2) HL1.out ?_
                  simp only [Act.put, List.setIfInBounds_toArray, List.set_cons_succ, List.set_cons_zero]
                  repeat (go_big_quiet_step (first | (intro _; rfl)))
                  refine wpQuiet_load_at rfl 9 (.tmp 196) rfl ⟨bb, off + k, none⟩ rfl (.string y2) HL2.out ?_
                  simp only [Act.put, List.setIfInBounds_toArray, List.set_cons_succ, List.set_cons_zero]
                  repeat (go_big_quiet_step (first | (intro _; rfl)))
                  refine wpQuiet_load_at (by simp [Region.wanted, yielded, Act.put]) 9 (.tmp 200) rfl ⟨nb, 0, none⟩ rfl (.string { data := #[95] }) HL0.out ?_
                  simp only [Act.put, List.setIfInBounds_toArray, List.set_cons_succ, List.set_cons_zero]
                  repeat (go_big_quiet_step (first | (intro _; rfl)))
                  refine wpQuiet_load_at (by simp [Region.wanted, yielded, Act.put]) 3 (.tmp 205) rfl ⟨bz, oz + k, none⟩ rfl (.int .i64 z) HL3.out ?_
                  simp only [Act.put, List.setIfInBounds_toArray, List.set_cons_succ, List.set_cons_zero]
                  repeat (go_big_quiet_step (first | (intro _; rfl)))
                  refine wpQuiet_idx (by simp [Region.wanted, yielded, Act.put]) (.tmp 202) (.tmp 209) rfl _ 1 _ rfl rfl idxB1 ?_
                  simp only [Act.put, List.setIfInBounds_toArray, List.set_cons_succ, List.set_cons_zero]
                  repeat (go_big_quiet_step (first | (intro _; rfl)))
                  refine wpQuiet_nil ?_
                  intro wq hBq
                  have HQ9 := Lib.hid (HB9.out.trans (hBq.mono HB9.out.size))
                  clear hBq
                  go_wp2_with fail
                  go_roundg (gk - 1)
                  case measure => omega
                  case rel => exact ⟨k + 1, by omega, by go_num, HQ9⟩
                · have q1 := Q1.out
                  rw [hcc] at hcw q1
                  have hcw2 : wrap64 ((IntKind.u64.wrap z).tmod 4) = 2 := by rw [hcw]; unfold wrap64; omega
                  have hidx := idxB2
                  have q1 : y1 = { data := #[46] } := q1
                  subst q1
                  clear hcc hc4
                  have hltb : nb < w9.heap.size := lt_of_block Hbx.out
                  have hlb : bb < w9.heap.size := Nat.lt_of_lt_of_le HLB.out.1 HBW9.out.size
                  have hlz : bz < w9.heap.size := Nat.lt_of_lt_of_le HLB.out.2 HBW9.out.size
                  have HL1 := Lib.hid (fun w1 (hw : Below w9.heap.size w9 w1) => (by have h := (hw.cell (p := ⟨nb, 1, none⟩) hltb).trans f1; simp [go_sem, h] : (loadVar 9 ⟨nb, 1, none⟩).run Tryd.prog w1 = .ok (.string y2) w1))
                  have HL0 := Lib.hid (fun w1 (hw : Below w9.heap.size w9 w1) => (by have h := (hw.cell (p := ⟨nb, 0, none⟩) hltb).trans f0; simp [go_sem, h] : (loadVar 9 ⟨nb, 0, none⟩).run Tryd.prog w1 = .ok (.string { data := #[46] }) w1))
                  have HL2 := Lib.hid (fun w1 (hw : Below w9.heap.size w9 w1) => (by have h := (hw.cell (p := ⟨bb, off + k, none⟩) hlb).trans ck; simp [go_sem, h] : (loadVar 9 ⟨bb, off + k, none⟩).run Tryd.prog w1 = .ok (.string y2) w1))
                  have HL3 := Lib.hid (fun w1 (hw : Below w9.heap.size w9 w1) => (by have h := (hw.cell (p := ⟨bz, oz + k, none⟩) hlz).trans ckz; simp [go_sem, h] : (loadVar 3 ⟨bz, oz + k, none⟩).run Tryd.prog w1 = .ok (.int .i64 z) w1))
                  clear f0 f1 ck ckz hltb hlb hlz
                  refine wp_region_class (Below w9.heap.size w9) (by kernel_rfl) (by kernel_rfl) (Below.refl _ _).drew ?_
                  repeat (go_big_quiet_step (first | (intro _; rfl)))
                  refine wpQuiet_load_at rfl 9 (.tmp 192) rfl ⟨nb, 1, none⟩ rfl (.string y2) HL1.out ?_
                  simp only [Act.put, List.setIfInBounds_toArray, List.set_cons_succ, List.set_cons_zero]
                  repeat (go_big_quiet_step (first | (intro _; rfl)))
                  refine wpQuiet_load_at rfl 9 (.tmp 196) rfl ⟨bb, off + k, none⟩ rfl (.string y2) HL2.out ?_
                  simp only [Act.put, List.setIfInBounds_toArray, List.set_cons_succ, List.set_cons_zero]
                  repeat (go_big_quiet_step (first | (intro _; rfl)))
                  refine wpQuiet_load_at (by simp [Region.wanted, yielded, Act.put]) 9 (.tmp 200) rfl ⟨nb, 0, none⟩ rfl (.string { data := #[46] }) HL0.out ?_
                  simp only [Act.put, List.setIfInBounds_toArray, List.set_cons_succ, List.set_cons_zero]
                  repeat (go_big_quiet_step (first | (intro _; rfl)))
                  refine wpQuiet_load_at (by simp [Region.wanted, yielded, Act.put]) 3 (.tmp 205) rfl ⟨bz, oz + k, none⟩ rfl (.int .i64 z) HL3.out ?_
                  simp only [Act.put, List.setIfInBounds_toArray, List.set_cons_succ, List.set_cons_zero]
                  repeat (go_big_quiet_step (first | (intro _; rfl)))
                  refine wpQuiet_idx (by simp [Region.wanted, yielded, Act.put]) (.tmp 202) (.tmp 209) rfl _ 2 _ rfl rfl idxB2 ?_
                  simp only [Act.put, List.setIfInBounds_toArray, List.set_cons_succ, List.set_cons_zero]
                  repeat (go_big_quiet_step (first | (intro _; rfl)))
                  refine wpQuiet_nil ?_
                  intro wq hBq
                  have HQ9 := Lib.hid (HB9.out.trans (hBq.mono HB9.out.size))
                  clear hBq
                  go_wp2_with fail
                  go_roundg (gk - 1)
                  case measure => omega
                  case rel => exact ⟨k + 1, by omega, by go_num, HQ9⟩
                · have q1 := Q1.out
                  rw [hcc] at hcw q1
                  have hcw2 : wrap64 ((IntKind.u64.wrap z).tmod 4) = 3 := by rw [hcw]; unfold wrap64; omega
                  have hidx := idxB3
                  have q1 : y1 = { data := #[110] } := q1
                  subst q1
                  clear hcc hc4
                  have hltb : nb < w9.heap.size := lt_of_block Hbx.out
                  have hlb : bb < w9.heap.size := Nat.lt_of_lt_of_le HLB.out.1 HBW9.out.size
                  have hlz : bz < w9.heap.size := Nat.lt_of_lt_of_le HLB.out.2 HBW9.out.size
                  have HL1 := Lib.hid (fun w1 (hw : Below w9.heap.size w9 w1) => (by have h := (hw.cell (p := ⟨nb, 1, none⟩) hltb).trans f1; simp [go_sem, h] : (loadVar 9 ⟨nb, 1, none⟩).run Tryd.prog w1 = .ok (.string y2) w1))
                  have HL0 := Lib.hid (fun w1 (hw : Below w9.heap.size w9 w1) => (by have h := (hw.cell (p := ⟨nb, 0, none⟩) hltb).trans f0; simp [go_sem, h] : (loadVar 9 ⟨nb, 0, none⟩).run Tryd.prog w1 = .ok (.string { data := #[110] }) w1))
                  have HL2 := Lib.hid (fun w1 (hw : Below w9.heap.size w9 w1) => (by have h := (hw.cell (p := ⟨bb, off + k, none⟩) hlb).trans ck; simp [go_sem, h] : (loadVar 9 ⟨bb, off + k, none⟩).run Tryd.prog w1 = .ok (.string y2) w1))
                  have HL3 := Lib.hid (fun w1 (hw : Below w9.heap.size w9 w1) => (by have h := (hw.cell (p := ⟨bz, oz + k, none⟩) hlz).trans ckz; simp [go_sem, h] : (loadVar 3 ⟨bz, oz + k, none⟩).run Tryd.prog w1 = .ok (.int .i64 z) w1))
                  clear f0 f1 ck ckz hltb hlb hlz
                  refine wp_region_class (Below w9.heap.size w9) (by kernel_rfl) (by kernel_rfl) (Below.refl _ _).drew ?_
                  repeat (go_big_quiet_step (first | (intro _; rfl)))
                  refine wpQuiet_load_at rfl 9 (.tmp 192) rfl ⟨nb, 1, none⟩ rfl (.string y2) HL1.out ?_
                  simp only [Act.put, List.setIfInBounds_toArray, List.set_cons_succ, List.set_cons_zero]
                  repeat (go_big_quiet_step (first | (intro _; rfl)))
                  refine wpQuiet_load_at rfl 9 (.tmp 196) rfl ⟨bb, off + k, none⟩ rfl (.string y2) HL2.out ?_
                  simp only [Act.put, List.setIfInBounds_toArray, List.set_cons_succ, List.set_cons_zero]
                  repeat (go_big_quiet_step (first | (intro _; rfl)))
                  refine wpQuiet_load_at (by simp [Region.wanted, yielded, Act.put]) 9 (.tmp 200) rfl ⟨nb, 0, none⟩ rfl (.string { data := #[110] }) HL0.out ?_
                  simp only [Act.put, List.setIfInBounds_toArray, List.set_cons_succ, List.set_cons_zero]
                  repeat (go_big_quiet_step (first | (intro _; rfl)))
                  refine wpQuiet_load_at (by simp [Region.wanted, yielded, Act.put]) 3 (.tmp 205) rfl ⟨bz, oz + k, none⟩ rfl (.int .i64 z) HL3.out ?_
                  simp only [Act.put, List.setIfInBounds_toArray, List.set_cons_succ, List.set_cons_zero]
                  repeat (go_big_quiet_step (first | (intro _; rfl)))
                  refine wpQuiet_idx (by simp [Region.wanted, yielded, Act.put]) (.tmp 202) (.tmp 209) rfl _ 3 _ rfl rfl idxB3 ?_
                  simp only [Act.put, List.setIfInBounds_toArray, List.set_cons_succ, List.set_cons_zero]
                  repeat (go_big_quiet_step (first | (intro _; rfl)))
                  refine wpQuiet_nil ?_
                  intro wq hBq
                  have HQ9 := Lib.hid (HB9.out.trans (hBq.mono HB9.out.size))
                  clear hBq
                  go_wp2_with fail
                  go_roundg (gk - 1)
                  case measure => omega
                  case rel => exact ⟨k + 1, by omega, by go_num, HQ9⟩
              have hnI : ¬ (k : Int) < (len : Int) := by omega
              have HBK := Lib.hid (HB8.out.trans (HK.out.mono HB8.out.size))
              have hy := (HK.out.block _ (lt_of_block Hn.out)).trans Hn.out
              have c3 := block_cell hy 3
              have HE2 := Lib.hid (HE.out.below HK.out)
              clear hy
              go_wp2_with fail
              go_loopg [23, 24, 217] ql (fun g _ _ iv wr' => ∃ k : Nat, k + g = ql ∧ iv = .int .i64 k ∧ wr' = wr)
              case atStart => exact ⟨0, by omega, rfl, rfl⟩
              case round =>
                clear c3
                obtain ⟨i, hig, rfl, rfl⟩ := hrel
                by_cases hlt2 : i < ql
                · have hltI : (i : Int) < (ql : Int) := by omega
                  obtain ⟨ge, oe, rfl⟩ := HPE.out (by omega)
                  obtain ⟨bb, off, rfl, hbl1, hc⟩ := HQP.out (by omega)
                  have hk : i < qs.length := by have := HLN.out.2.2; omega
                  have ck := (HBK.out.cell (p := ⟨bb, off + i, none⟩) hbl1).trans (hc i hk)
                  obtain ⟨hge, ce0⟩ := str_cell HE2.out (i := i) (List.getElem?_eq_getElem hk)
                  have hps := HQS.out i hk
                  clear hc
                  generalize qs[i] = x at *
                  go_wp2_with fail
                  go_roundg (gk - 1)
                  case measure => omega
                  case rel => exact ⟨i + 1, by omega, by go_num, rfl⟩
                have hnI : ¬ (i : Int) < (ql : Int) := by omega
                go_wp2_with fail
                go_ret
                exact ⟨rfl, HBK.out⟩
      | false =>
        have HM0 := Lib.hid (MkTx.start (f := impL) (l := ilOf ps zs) (a := a1) (show _ = base0 ++ [] by rw [List.append_nil]; exact HT1.out.1))
        have hbl : (base0 ++ []).length ≤ 600 := by simp; omega
        obtain ⟨base1, hb1⟩ : ∃ b, b = base0 ++ [] := ⟨_, rfl⟩
        rw [← hb1] at HM0 hbl
        have HB1 := Lib.hid hb1
        clear hb1
        go_wp2_with fail
        go_loopg [15, 16, 17, 110] len (fun g va _ _ iv wr => ∃ (k : Nat) (a : ByteArray), k + g = len ∧ va = .string a ∧ iv = .int .i64 k ∧ Hid (MkTx base1 impL (ilOf ps zs) k a) ∧ wr = wc)
        case atStart => exact ⟨0, _, by omega, rfl, rfl, HM0, rfl⟩
        case round =>
          obtain ⟨k, a, hkg, rfl, rfl, HR, rfl⟩ := hrel
          have has := HR.out.z
          by_cases hlt : k < len
          · have hltI : (k : Int) < (len : Int) := by omega
            obtain ⟨bb, off, rfl, hbl1, hc⟩ := HPP.out (by omega)
            obtain ⟨bz, oz, rfl, hbz, hcz⟩ := HZP.out (by omega)
            have hk : k < ps.length := by have := HLN.out.1; omega
            have hkz : k < zs.length := by have := HLN.out.2.1; omega
            have ck := (HBX.out.cell (p := ⟨bb, off + k, none⟩) hbl1).trans (hc k hk)
            have ckz := (HBX.out.cell (p := ⟨bz, oz + k, none⟩) hbz).trans (hcz k hkz)
            have hps := HPS.out k hk
            have hki : k < (ilOf ps zs).length := by rw [Hil.out]; exact hlt
            have HNX := Lib.hid (show ∀ a' : ByteArray, a'.data.toList = a.data.toList ++ impL (cOf zs[k], ps[k]) → MkTx base1 impL (ilOf ps zs) (k + 1) a' from fun a' he => HR.out.next hki (by rw [ilOf_get hk hkz]; exact he) (by rw [ilOf_get hk hkz]; have := impL_len (x := (cOf zs[k], ps[k])) hps; omega))
            have hcw := cOf_lt zs[k]
            clear hc hcz hki
            generalize ps[k] = x at *
            generalize zs[k] = z at *
            obtain ⟨hcw, hc4⟩ := hcw
            have e1 : (⟨#[105, 109, 112, 111, 114, 116, 32]⟩ : ByteArray).size = 7 := rfl
            have e2 : (⟨#[34]⟩ : ByteArray).size = 1 := rfl
            have e3 : (⟨#[34, 10]⟩ : ByteArray).size = 2 := rfl
            have e4 : (⟨#[95, 32]⟩ : ByteArray).size = 2 := rfl
            have e5 : (⟨#[46, 32]⟩ : ByteArray).size = 2 := rfl
            have e6 : (⟨#[110, 32]⟩ : ByteArray).size = 2 := rfl
            have e7 : (⟨#[]⟩ : ByteArray).size = 0 := rfl
            rcases (show cOf z = 0 ∨ cOf z = 1 ∨ cOf z = 2 ∨ cOf z = 3 by omega) with hcc | hcc | hcc | hcc
            · rw [hcc] at hcw HNX
              have hcw2 : wrap64 ((IntKind.u64.wrap z).tmod 4) = 0 := by rw [hcw]; unfold wrap64; omega
              have hidx := idxA0
              clear hcc hc4
              go_wp2_with fail
              go_roundg (gk - 1)
              case measure => omega
              case rel => exact ⟨k + 1, _, by omega, rfl, by go_num, Lib.hid (HNX.out _ (by simp [impL, impS, nmS])), rfl⟩
            · rw [hcc] at hcw HNX
              have hcw2 : wrap64 ((IntKind.u64.wrap z).tmod 4) = 1 := by rw [hcw]; unfold wrap64; omega
              have hidx := idxA1
              clear hcc hc4
              go_wp2_with fail
              go_roundg (gk - 1)
              case measure => omega
              case rel => exact ⟨k + 1, _, by omega, rfl, by go_num, Lib.hid (HNX.out _ (by simp [impL, impS, nmS])), rfl⟩
            · rw [hcc] at hcw HNX
              have hcw2 : wrap64 ((IntKind.u64.wrap z).tmod 4) = 2 := by rw [hcw]; unfold wrap64; omega
              have hidx := idxA2
              clear hcc hc4
              go_wp2_with fail
              go_roundg (gk - 1)
              case measure => omega
              case rel => exact ⟨k + 1, _, by omega, rfl, by go_num, Lib.hid (HNX.out _ (by simp [impL, impS, nmS])), rfl⟩
            · rw [hcc] at hcw HNX
              have hcw2 : wrap64 ((IntKind.u64.wrap z).tmod 4) = 3 := by rw [hcw]; unfold wrap64; omega
              have hidx := idxA3
              clear hcc hc4
              go_wp2_with fail
              go_roundg (gk - 1)
              case measure => omega
              case rel => exact ⟨k + 1, _, by omega, rfl, by go_num, Lib.hid (HNX.out _ (by simp [impL, impS, nmS])), rfl⟩
          have hnI : ¬ (k : Int) < (len : Int) := by omega
          have hal := HR.out.all (by rw [Hil.out]; omega)
          have HM3 := Lib.hid (MkTx.start (f := embS) (l := qs) (a := a) (show _ = base0 ++ impsS false (ilOf ps zs) by rw [hal, HB1.out]; simp [impsS]))
          have hb3 : (base0 ++ impsS false (ilOf ps zs)).length ≤ 20000 := by
            have h := congrArg List.length (show a.data.toList = base0 ++ impsS false (ilOf ps zs) by rw [hal, HB1.out]; simp [impsS])
            rw [← h, ← Lib.size_eq]; omega
          obtain ⟨base3, hb3e⟩ : ∃ b, b = base0 ++ impsS false (ilOf ps zs) := ⟨_, rfl⟩
          rw [← hb3e] at HM3 hb3
          have HB3 := Lib.hid hb3e
          clear hb3e hal has HR
          go_wp2_with fail
          go_loopg [15, 19, 140] ql (fun g va _ iv wr' => ∃ (k : Nat) (a : ByteArray), k + g = ql ∧ va = .string a ∧ iv = .int .i64 k ∧ Hid (MkTx base3 embS qs k a) ∧ wr' = wr)
          case atStart => exact ⟨0, _, by omega, rfl, rfl, HM3, rfl⟩
          case round =>
            obtain ⟨j, aj, hjg, rfl, rfl, HRj, rfl⟩ := hrel
            have has := HRj.out.z
            by_cases hlt : j < ql
            · have hltI : (j : Int) < (ql : Int) := by omega
              obtain ⟨bb, off, rfl, hbl1, hc⟩ := HQP.out (by omega)
              have hk : j < qs.length := by have := HLN.out.2.2; omega
              have ck := (HBX.out.cell (p := ⟨bb, off + j, none⟩) hbl1).trans (hc j hk)
              have hps := HQS.out j hk
              have HNX := Lib.hid (show ∀ a' : ByteArray, a'.data.toList = aj.data.toList ++ embS qs[j] → MkTx base3 embS qs (j + 1) a' from fun a' he => HRj.out.next hk he (embS_len hps))
              clear hc
              generalize qs[j] = x at *
              have e1 : (⟨#[47, 47, 103, 111, 58, 101, 109, 98, 101, 100, 32]⟩ : ByteArray).size = 11 := rfl
              have e2 : (⟨#[10]⟩ : ByteArray).size = 1 := rfl
              go_wp2_with fail
              go_roundg (gk - 1)
              case measure => omega
              case rel => exact ⟨j + 1, _, by omega, rfl, by go_num, Lib.hid (HNX.out _ (by simp [embS, txtE])), rfl⟩
            have hnI : ¬ (j : Int) < (ql : Int) := by omega
            have hal := HRj.out.all (by have := HLN.out.2.2; omega)
            have z10 : (⟨#[118, 97, 114, 32, 120, 32, 105, 110, 116, 10]⟩ : ByteArray).size = 10 := rfl
            have hqg : ∀ p ∈ qs, Aln p ∧ p ≠ ⟨#[]⟩ := fun p hp => plain_aln (HPq.out p hp)
            obtain ⟨J, hJp, hJm⟩ := parse_makes (s := aj ++ ({ data := #[118, 97, 114, 32, 120, 32, 105, 110, 116, 10] } : ByteArray)) (nm := nm) (b := bd) (l := ilOf ps zs) (ps := qs) (g := false) (by simp [hal, HB3.out, HB0.out, textM]) (plain_aln HPn.out).1 (plain_aln HPn.out).2 HD.out HJ.out.symm (key_of Eb1.out Eb2.out Eb3.out Eb4.out HJ.out.symm) HPb.out.1 (ilOf_good (fun p hp => plain_aln (HPp.out p hp))) hqg
            have hjl : j ≤ 20 := by omega
            have hsz2 : (aj ++ ({ data := #[118, 97, 114, 32, 120, 32, 105, 110, 116, 10] } : ByteArray)).size ≤ 1048576 := by rw [ByteArray.size_append, z10]; omega
            have HXA := Lib.hid (fun w1 (h : Below w.heap.size w w1) => HX.out (aj ++ ({ data := #[118, 97, 114, 32, 120, 32, 105, 110, 116, 10] } : ByteArray)) w1 hsz2 h)
            rw [hJp] at HXA
            have hpb := parse_b _ hsz2
            rw [hJp] at hpb
            have hJl : J.length = len := by have := congrArg List.length hJm; rw [List.length_map, List.length_map, Hil.out] at this; exact this
            have HJB := Lib.hid (show ∀ k (h : k < J.length), J[k].1.size ≤ 4194304 ∧ J[k].2.1.size ≤ 4194304 ∧ J[k].2.2 ≤ 4194304 from fun k h => hpb.im _ (List.getElem_mem h))
            have HJK := Lib.hid (show ∀ k (h : k < J.length) (hk : k < ps.length) (hz : k < zs.length), J[k].1 = ⟨(nmT (cOf zs[k])).toArray⟩ ∧ J[k].2.1 = ps[k] from fun k h hk hz => by
              have h1 : (J.map nmOf)[k]? = some (nmOf J[k]) := by rw [List.getElem?_map, List.getElem?_eq_getElem h]; rfl
              have hki : k < (ilOf ps zs).length := by rw [Hil.out, ← hJl]; exact h
              rw [hJm, List.getElem?_map, List.getElem?_eq_getElem hki, ilOf_get hk hz] at h1
              have h1 := Option.some.inj h1
              have e1 := congrArg Prod.fst h1
              have e2 := congrArg Prod.snd h1
              exact ⟨e1.symm, e2.symm⟩)
            have HJL := Lib.hid hJl
            clear hJp hJm hpb hqg hsz2 hal hJl HX
            go_wp2_with fail
            refine (HXA.out _ HBX.out).mono ?_
            rintro r w7 ⟨v7, rfl, ⟨iv, ev, rfl, hi, he⟩, hB⟩
            dsimp only at hi he
            obtain ⟨pe, ce, rfl, hpe⟩ := lat_shape he
            obtain ⟨pi, ci, rfl, hpi⟩ := lat_shape hi
            have HPI := Lib.hid (fun h : 0 < len => hpi (by rw [HJL.out]; exact h))
            have HPE := Lib.hid (fun h : 0 < ql => hpe (by rw [← HLN.out.2.2]; exact h))
            rw [HJL.out] at hi
            rw [← HLN.out.2.2] at he
            dsimp only
            rw [HJL.out, ← HLN.out.2.2]
            have HB7 := Lib.hid (HBX.out.trans (hB.mono HBX.out.size))
            have hn1 := heap_alloc_new w7 (.cells #[.string nm, .slice pi len ci, .string bd, .slice pe ql ce, .int .i64 0, .int .i64 0] 41)
            have hb3 := (Below.refl w7.heap.size w7).alloc (Nat.le_refl _) (.cells #[.string nm, .slice pi len ci, .string bd, .slice pe ql ce, .int .i64 0, .int .i64 0] 41)
            have Hn := Lib.hid hn1
            have HB8 := Lib.hid (HB7.out.trans (hb3.mono HB7.out.size))
            have HI := Lib.hid (hi.below hb3)
            have HE := Lib.hid (he.below hb3)
            clear hi he hpe hpi hB hn1 hb3
            go_upto_region 34 with fail
            generalize w7.alloc (.cells #[.string nm, .slice pi len ci, .string bd, .slice pe ql ce, .int .i64 0, .int .i64 0] 41) = w8 at *
            generalize w7.heap.size = n at *
            have c0 := block_cell Hn.out 0
            have c1 := block_cell Hn.out 1
            have c2 := block_cell Hn.out 2
            have c3 := block_cell Hn.out 3
            have c4 := block_cell Hn.out 4
            clear z10 hb3 has hnI
            go_wp2_with fail
            go_loopg [21, 22, 187] len (fun g _ _ iv wr => ∃ k : Nat, k + g = len ∧ iv = .int .i64 k ∧ Hid (Below w8.heap.size w8 wr))
            case atStart => exact ⟨0, by omega, rfl, Lib.hid (Below.refl _ _)⟩
            case round =>
              clear c0 c1 c2 c3 c4
              obtain ⟨k, hkg, rfl, HK⟩ := hrel
              by_cases hlt : k < len
              · have hltI : (k : Int) < (len : Int) := by omega
                obtain ⟨gi, oi, rfl⟩ := HPI.out (by omega)
                obtain ⟨bb, off, rfl, hbl1, hc⟩ := HPP.out (by omega)
                obtain ⟨bz, oz, rfl, hbz, hcz⟩ := HZP.out (by omega)
                have hk : k < ps.length := by have := HLN.out.1; omega
                have hkz : k < zs.length := by have := HLN.out.2.1; omega
                have hkJ : k < J.length := by rw [HJL.out]; exact hlt
                obtain ⟨hgl, i0, i1, i2⟩ := im_cell (HI.out.below HK.out) (i := k) (List.getElem?_eq_getElem hkJ)
                have hj1 := HJB.out k hkJ
                obtain ⟨q1, q2⟩ := HJK.out k hkJ hk hkz
                have HBK := Lib.hid (HB8.out.trans (HK.out.mono HB8.out.size))
                have HCK := Lib.hid (hc k hk)
                have HCZ := Lib.hid (hcz k hkz)
                have hps := HPS.out k hk
                have hcw := cOf_lt zs[k]
                have HLB := Lib.hid (And.intro hbl1 hbz)
                clear hc hcz
                generalize J[k] = y at *
                generalize ps[k] = x at *
                generalize zs[k] = z at *
                clear hkJ
                obtain ⟨y1, y2, y3⟩ := y
                dsimp only at q1 q2 i0 i1 i2 hj1
                subst q2
                have Q1 := Lib.hid q1
                clear q1
                obtain ⟨hcw, hc4⟩ := hcw
                go_upto_region 39 with fail
                have hb9 := (Below.refl wr.heap.size wr).alloc (Nat.le_refl _) (.cells #[.string y1, .string y2, .int .i64 y3] 44)
                have HB9 := Lib.hid (HK.out.trans (hb9.mono HK.out.size))
                have HBW9 := Lib.hid (HBK.out.trans (hb9.mono HBK.out.size))
                have Hbx := Lib.hid (heap_alloc_new wr (.cells #[.string y1, .string y2, .int .i64 y3] 44))
                clear hb9 i0 i1 i2
                generalize wr.alloc (.cells #[.string y1, .string y2, .int .i64 y3] 44) = w9 at *
                generalize wr.heap.size = nb at *
                have f0 : w9.cell? ⟨nb, 0, none⟩ = some (.string y1) := block_cell Hbx.out 0
                have f1 : w9.cell? ⟨nb, 1, none⟩ = some (.string y2) := block_cell Hbx.out 1
                have ck := (HBW9.out.cell (p := ⟨bb, off + k, none⟩) HLB.out.1).trans HCK.out
                have ckz := (HBW9.out.cell (p := ⟨bz, oz + k, none⟩) HLB.out.2).trans HCZ.out
                rcases (show cOf z = 0 ∨ cOf z = 1 ∨ cOf z = 2 ∨ cOf z = 3 by omega) with hcc | hcc | hcc | hcc
                · have q1 := Q1.out
                  rw [hcc] at hcw q1
                  have hcw2 : wrap64 ((IntKind.u64.wrap z).tmod 4) = 0 := by rw [hcw]; unfold wrap64; omega
                  have hidx := idxB0
                  have q1 : y1 = { data := #[] } := q1
                  subst q1
                  clear hcc hc4
                  have hltb : nb < w9.heap.size := lt_of_block Hbx.out
                  have hlb : bb < w9.heap.size := Nat.lt_of_lt_of_le HLB.out.1 HBW9.out.size
                  have hlz : bz < w9.heap.size := Nat.lt_of_lt_of_le HLB.out.2 HBW9.out.size
                  have HL1 := Lib.hid (fun w1 (hw : Below w9.heap.size w9 w1) => (by have h := (hw.cell (p := ⟨nb, 1, none⟩) hltb).trans f1; simp [go_sem, h] : (loadVar 9 ⟨nb, 1, none⟩).run Tryd.prog w1 = .ok (.string y2) w1))
                  have HL0 := Lib.hid (fun w1 (hw : Below w9.heap.size w9 w1) => (by have h := (hw.cell (p := ⟨nb, 0, none⟩) hltb).trans f0; simp [go_sem, h] : (loadVar 9 ⟨nb, 0, none⟩).run Tryd.prog w1 = .ok (.string { data := #[] }) w1))
                  have HL2 := Lib.hid (fun w1 (hw : Below w9.heap.size w9 w1) => (by have h := (hw.cell (p := ⟨bb, off + k, none⟩) hlb).trans ck; simp [go_sem, h] : (loadVar 9 ⟨bb, off + k, none⟩).run Tryd.prog w1 = .ok (.string y2) w1))
                  have HL3 := Lib.hid (fun w1 (hw : Below w9.heap.size w9 w1) => (by have h := (hw.cell (p := ⟨bz, oz + k, none⟩) hlz).trans ckz; simp [go_sem, h] : (loadVar 3 ⟨bz, oz + k, none⟩).run Tryd.prog w1 = .ok (.int .i64 z) w1))
                  clear f0 f1 ck ckz hltb hlb hlz
                  refine wp_region_class (Below w9.heap.size w9) (by kernel_rfl) (by kernel_rfl) (Below.refl _ _).drew ?_
                  repeat (go_big_quiet_step (first | (intro _; rfl)))
                  refine wpQuiet_load_at rfl 9 (.tmp 192) rfl ⟨nb, 1, none⟩ rfl (.string y2) HL1.out ?_
                  simp only [Act.put, List.setIfInBounds_toArray, List.set_cons_succ, List.set_cons_zero]
                  repeat (go_big_quiet_step (first | (intro _; rfl)))
                  refine wpQuiet_load_at rfl 9 (.tmp 196) rfl ⟨bb, off + k, none⟩ rfl (.string y2) HL2.out ?_
                  simp only [Act.put, List.setIfInBounds_toArray, List.set_cons_succ, List.set_cons_zero]
                  repeat (go_big_quiet_step (first | (intro _; rfl)))
                  refine wpQuiet_load_at (by simp [Region.wanted, yielded, Act.put]) 9 (.tmp 200) rfl ⟨nb, 0, none⟩ rfl (.string { data := #[] }) HL0.out ?_
                  simp only [Act.put, List.setIfInBounds_toArray, List.set_cons_succ, List.set_cons_zero]
                  repeat (go_big_quiet_step (first | (intro _; rfl)))
                  refine wpQuiet_load_at (by simp [Region.wanted, yielded, Act.put]) 3 (.tmp 205) rfl ⟨bz, oz + k, none⟩ rfl (.int .i64 z) HL3.out ?_
                  simp only [Act.put, List.setIfInBounds_toArray, List.set_cons_succ, List.set_cons_zero]
                  repeat (go_big_quiet_step (first | (intro _; rfl)))
                  refine wpQuiet_idx (by simp [Region.wanted, yielded, Act.put]) (.tmp 202) (.tmp 209) rfl _ 0 _ rfl rfl idxB0 ?_
                  simp only [Act.put, List.setIfInBounds_toArray, List.set_cons_succ, List.set_cons_zero]
                  repeat (go_big_quiet_step (first | (intro _; rfl)))
                  refine wpQuiet_nil ?_
                  intro wq hBq
                  have HQ9 := Lib.hid (HB9.out.trans (hBq.mono HB9.out.size))
                  clear hBq
                  go_wp2_with fail
                  go_roundg (gk - 1)
                  case measure => omega
                  case rel => exact ⟨k + 1, by omega, by go_num, HQ9⟩
                · have q1 := Q1.out
                  rw [hcc] at hcw q1
                  have hcw2 : wrap64 ((IntKind.u64.wrap z).tmod 4) = 1 := by rw [hcw]; unfold wrap64; omega
                  have hidx := idxB1
                  have q1 : y1 = { data := #[95] } := q1
                  subst q1
                  clear hcc hc4
                  have hltb : nb < w9.heap.size := lt_of_block Hbx.out
                  have hlb : bb < w9.heap.size := Nat.lt_of_lt_of_le HLB.out.1 HBW9.out.size
                  have hlz : bz < w9.heap.size := Nat.lt_of_lt_of_le HLB.out.2 HBW9.out.size
                  have HL1 := Lib.hid (fun w1 (hw : Below w9.heap.size w9 w1) => (by have h := (hw.cell (p := ⟨nb, 1, none⟩) hltb).trans f1; simp [go_sem, h] : (loadVar 9 ⟨nb, 1, none⟩).run Tryd.prog w1 = .ok (.string y2) w1))
                  have HL0 := Lib.hid (fun w1 (hw : Below w9.heap.size w9 w1) => (by have h := (hw.cell (p := ⟨nb, 0, none⟩) hltb).trans f0; simp [go_sem, h] : (loadVar 9 ⟨nb, 0, none⟩).run Tryd.prog w1 = .ok (.string { data := #[95] }) w1))
                  have HL2 := Lib.hid (fun w1 (hw : Below w9.heap.size w9 w1) => (by have h := (hw.cell (p := ⟨bb, off + k, none⟩) hlb).trans ck; simp [go_sem, h] : (loadVar 9 ⟨bb, off + k, none⟩).run Tryd.prog w1 = .ok (.string y2) w1))
                  have HL3 := Lib.hid (fun w1 (hw : Below w9.heap.size w9 w1) => (by have h := (hw.cell (p := ⟨bz, oz + k, none⟩) hlz).trans ckz; simp [go_sem, h] : (loadVar 3 ⟨bz, oz + k, none⟩).run Tryd.prog w1 = .ok (.int .i64 z) w1))
                  clear f0 f1 ck ckz hltb hlb hlz
                  refine wp_region_class (Below w9.heap.size w9) (by kernel_rfl) (by kernel_rfl) (Below.refl _ _).drew ?_
                  repeat (go_big_quiet_step (first | (intro _; rfl)))
                  refine wpQuiet_load_at rfl 9 (.tmp 192) rfl ⟨nb, 1, none⟩ rfl (.string y2) HL1.out ?_
                  simp only [Act.put, List.setIfInBounds_toArray, List.set_cons_succ, List.set_cons_zero]
                  repeat (go_big_quiet_step (first | (intro _; rfl)))
                  refine wpQuiet_load_at rfl 9 (.tmp 196) rfl ⟨bb, off + k, none⟩ rfl (.string y2) HL2.out ?_
                  simp only [Act.put, List.setIfInBounds_toArray, List.set_cons_succ, List.set_cons_zero]
                  repeat (go_big_quiet_step (first | (intro _; rfl)))
                  refine wpQuiet_load_at (by simp [Region.wanted, yielded, Act.put]) 9 (.tmp 200) rfl ⟨nb, 0, none⟩ rfl (.string { data := #[95] }) HL0.out ?_
                  simp only [Act.put, List.setIfInBounds_toArray, List.set_cons_succ, List.set_cons_zero]
                  repeat (go_big_quiet_step (first | (intro _; rfl)))
                  refine wpQuiet_load_at (by simp [Region.wanted, yielded, Act.put]) 3 (.tmp 205) rfl ⟨bz, oz + k, none⟩ rfl (.int .i64 z) HL3.out ?_
                  simp only [Act.put, List.setIfInBounds_toArray, List.set_cons_succ, List.set_cons_zero]
                  repeat (go_big_quiet_step (first | (intro _; rfl)))
                  refine wpQuiet_idx (by simp [Region.wanted, yielded, Act.put]) (.tmp 202) (.tmp 209) rfl _ 1 _ rfl rfl idxB1 ?_
                  simp only [Act.put, List.setIfInBounds_toArray, List.set_cons_succ, List.set_cons_zero]
                  repeat (go_big_quiet_step (first | (intro _; rfl)))
                  refine wpQuiet_nil ?_
                  intro wq hBq
                  have HQ9 := Lib.hid (HB9.out.trans (hBq.mono HB9.out.size))
                  clear hBq
                  go_wp2_with fail
                  go_roundg (gk - 1)
                  case measure => omega
                  case rel => exact ⟨k + 1, by omega, by go_num, HQ9⟩
                · have q1 := Q1.out
                  rw [hcc] at hcw q1
                  have hcw2 : wrap64 ((IntKind.u64.wrap z).tmod 4) = 2 := by rw [hcw]; unfold wrap64; omega
                  have hidx := idxB2
                  have q1 : y1 = { data := #[46] } := q1
                  subst q1
                  clear hcc hc4
                  have hltb : nb < w9.heap.size := lt_of_block Hbx.out
                  have hlb : bb < w9.heap.size := Nat.lt_of_lt_of_le HLB.out.1 HBW9.out.size
                  have hlz : bz < w9.heap.size := Nat.lt_of_lt_of_le HLB.out.2 HBW9.out.size
                  have HL1 := Lib.hid (fun w1 (hw : Below w9.heap.size w9 w1) => (by have h := (hw.cell (p := ⟨nb, 1, none⟩) hltb).trans f1; simp [go_sem, h] : (loadVar 9 ⟨nb, 1, none⟩).run Tryd.prog w1 = .ok (.string y2) w1))
                  have HL0 := Lib.hid (fun w1 (hw : Below w9.heap.size w9 w1) => (by have h := (hw.cell (p := ⟨nb, 0, none⟩) hltb).trans f0; simp [go_sem, h] : (loadVar 9 ⟨nb, 0, none⟩).run Tryd.prog w1 = .ok (.string { data := #[46] }) w1))
                  have HL2 := Lib.hid (fun w1 (hw : Below w9.heap.size w9 w1) => (by have h := (hw.cell (p := ⟨bb, off + k, none⟩) hlb).trans ck; simp [go_sem, h] : (loadVar 9 ⟨bb, off + k, none⟩).run Tryd.prog w1 = .ok (.string y2) w1))
                  have HL3 := Lib.hid (fun w1 (hw : Below w9.heap.size w9 w1) => (by have h := (hw.cell (p := ⟨bz, oz + k, none⟩) hlz).trans ckz; simp [go_sem, h] : (loadVar 3 ⟨bz, oz + k, none⟩).run Tryd.prog w1 = .ok (.int .i64 z) w1))
                  clear f0 f1 ck ckz hltb hlb hlz
                  refine wp_region_class (Below w9.heap.size w9) (by kernel_rfl) (by kernel_rfl) (Below.refl _ _).drew ?_
                  repeat (go_big_quiet_step (first | (intro _; rfl)))
                  refine wpQuiet_load_at rfl 9 (.tmp 192) rfl ⟨nb, 1, none⟩ rfl (.string y2) HL1.out ?_
                  simp only [Act.put, List.setIfInBounds_toArray, List.set_cons_succ, List.set_cons_zero]
                  repeat (go_big_quiet_step (first | (intro _; rfl)))
                  refine wpQuiet_load_at rfl 9 (.tmp 196) rfl ⟨bb, off + k, none⟩ rfl (.string y2) HL2.out ?_
                  simp only [Act.put, List.setIfInBounds_toArray, List.set_cons_succ, List.set_cons_zero]
                  repeat (go_big_quiet_step (first | (intro _; rfl)))
                  refine wpQuiet_load_at (by simp [Region.wanted, yielded, Act.put]) 9 (.tmp 200) rfl ⟨nb, 0, none⟩ rfl (.string { data := #[46] }) HL0.out ?_
                  simp only [Act.put, List.setIfInBounds_toArray, List.set_cons_succ, List.set_cons_zero]
                  repeat (go_big_quiet_step (first | (intro _; rfl)))
                  refine wpQuiet_load_at (by simp [Region.wanted, yielded, Act.put]) 3 (.tmp 205) rfl ⟨bz, oz + k, none⟩ rfl (.int .i64 z) HL3.out ?_
                  simp only [Act.put, List.setIfInBounds_toArray, List.set_cons_succ, List.set_cons_zero]
                  repeat (go_big_quiet_step (first | (intro _; rfl)))
                  refine wpQuiet_idx (by simp [Region.wanted, yielded, Act.put]) (.tmp 202) (.tmp 209) rfl _ 2 _ rfl rfl idxB2 ?_
                  simp only [Act.put, List.setIfInBounds_toArray, List.set_cons_succ, List.set_cons_zero]
                  repeat (go_big_quiet_step (first | (intro _; rfl)))
                  refine wpQuiet_nil ?_
                  intro wq hBq
                  have HQ9 := Lib.hid (HB9.out.trans (hBq.mono HB9.out.size))
                  clear hBq
                  go_wp2_with fail
                  go_roundg (gk - 1)
                  case measure => omega
                  case rel => exact ⟨k + 1, by omega, by go_num, HQ9⟩
                · have q1 := Q1.out
                  rw [hcc] at hcw q1
                  have hcw2 : wrap64 ((IntKind.u64.wrap z).tmod 4) = 3 := by rw [hcw]; unfold wrap64; omega
                  have hidx := idxB3
                  have q1 : y1 = { data := #[110] } := q1
                  subst q1
                  clear hcc hc4
                  have hltb : nb < w9.heap.size := lt_of_block Hbx.out
                  have hlb : bb < w9.heap.size := Nat.lt_of_lt_of_le HLB.out.1 HBW9.out.size
                  have hlz : bz < w9.heap.size := Nat.lt_of_lt_of_le HLB.out.2 HBW9.out.size
                  have HL1 := Lib.hid (fun w1 (hw : Below w9.heap.size w9 w1) => (by have h := (hw.cell (p := ⟨nb, 1, none⟩) hltb).trans f1; simp [go_sem, h] : (loadVar 9 ⟨nb, 1, none⟩).run Tryd.prog w1 = .ok (.string y2) w1))
                  have HL0 := Lib.hid (fun w1 (hw : Below w9.heap.size w9 w1) => (by have h := (hw.cell (p := ⟨nb, 0, none⟩) hltb).trans f0; simp [go_sem, h] : (loadVar 9 ⟨nb, 0, none⟩).run Tryd.prog w1 = .ok (.string { data := #[110] }) w1))
                  have HL2 := Lib.hid (fun w1 (hw : Below w9.heap.size w9 w1) => (by have h := (hw.cell (p := ⟨bb, off + k, none⟩) hlb).trans ck; simp [go_sem, h] : (loadVar 9 ⟨bb, off + k, none⟩).run Tryd.prog w1 = .ok (.string y2) w1))
                  have HL3 := Lib.hid (fun w1 (hw : Below w9.heap.size w9 w1) => (by have h := (hw.cell (p := ⟨bz, oz + k, none⟩) hlz).trans ckz; simp [go_sem, h] : (loadVar 3 ⟨bz, oz + k, none⟩).run Tryd.prog w1 = .ok (.int .i64 z) w1))
                  clear f0 f1 ck ckz hltb hlb hlz
                  refine wp_region_class (Below w9.heap.size w9) (by kernel_rfl) (by kernel_rfl) (Below.refl _ _).drew ?_
                  repeat (go_big_quiet_step (first | (intro _; rfl)))
                  refine wpQuiet_load_at rfl 9 (.tmp 192) rfl ⟨nb, 1, none⟩ rfl (.string y2) HL1.out ?_
                  simp only [Act.put, List.setIfInBounds_toArray, List.set_cons_succ, List.set_cons_zero]
                  repeat (go_big_quiet_step (first | (intro _; rfl)))
                  refine wpQuiet_load_at rfl 9 (.tmp 196) rfl ⟨bb, off + k, none⟩ rfl (.string y2) HL2.out ?_
                  simp only [Act.put, List.setIfInBounds_toArray, List.set_cons_succ, List.set_cons_zero]
                  repeat (go_big_quiet_step (first | (intro _; rfl)))
                  refine wpQuiet_load_at (by simp [Region.wanted, yielded, Act.put]) 9 (.tmp 200) rfl ⟨nb, 0, none⟩ rfl (.string { data := #[110] }) HL0.out ?_
                  simp only [Act.put, List.setIfInBounds_toArray, List.set_cons_succ, List.set_cons_zero]
                  repeat (go_big_quiet_step (first | (intro _; rfl)))
                  refine wpQuiet_load_at (by simp [Region.wanted, yielded, Act.put]) 3 (.tmp 205) rfl ⟨bz, oz + k, none⟩ rfl (.int .i64 z) HL3.out ?_
                  simp only [Act.put, List.setIfInBounds_toArray, List.set_cons_succ, List.set_cons_zero]
                  repeat (go_big_quiet_step (first | (intro _; rfl)))
                  refine wpQuiet_idx (by simp [Region.wanted, yielded, Act.put]) (.tmp 202) (.tmp 209) rfl _ 3 _ rfl rfl idxB3 ?_
                  simp only [Act.put, List.setIfInBounds_toArray, List.set_cons_succ, List.set_cons_zero]
                  repeat (go_big_quiet_step (first | (intro _; rfl)))
                  refine wpQuiet_nil ?_
                  intro wq hBq
                  have HQ9 := Lib.hid (HB9.out.trans (hBq.mono HB9.out.size))
                  clear hBq
                  go_wp2_with fail
                  go_roundg (gk - 1)
                  case measure => omega
                  case rel => exact ⟨k + 1, by omega, by go_num, HQ9⟩
              have hnI : ¬ (k : Int) < (len : Int) := by omega
              have HBK := Lib.hid (HB8.out.trans (HK.out.mono HB8.out.size))
              have hy := (HK.out.block _ (lt_of_block Hn.out)).trans Hn.out
              have c3 := block_cell hy 3
              have HE2 := Lib.hid (HE.out.below HK.out)
              clear hy
              go_wp2_with fail
              go_loopg [23, 24, 217] ql (fun g _ _ iv wr' => ∃ k : Nat, k + g = ql ∧ iv = .int .i64 k ∧ wr' = wr)
              case atStart => exact ⟨0, by omega, rfl, rfl⟩
              case round =>
                clear c3
                obtain ⟨i, hig, rfl, rfl⟩ := hrel
                by_cases hlt2 : i < ql
                · have hltI : (i : Int) < (ql : Int) := by omega
                  obtain ⟨ge, oe, rfl⟩ := HPE.out (by omega)
                  obtain ⟨bb, off, rfl, hbl1, hc⟩ := HQP.out (by omega)
                  have hk : i < qs.length := by have := HLN.out.2.2; omega
                  have ck := (HBK.out.cell (p := ⟨bb, off + i, none⟩) hbl1).trans (hc i hk)
                  obtain ⟨hge, ce0⟩ := str_cell HE2.out (i := i) (List.getElem?_eq_getElem hk)
                  have hps := HQS.out i hk
                  clear hc
                  generalize qs[i] = x at *
                  go_wp2_with fail
                  go_roundg (gk - 1)
                  case measure => omega
                  case rel => exact ⟨i + 1, by omega, by go_num, rfl⟩
                have hnI : ¬ (i : Int) < (ql : Int) := by omega
                go_wp2_with fail
                go_ret
                exact ⟨rfl, HBK.out⟩
end Go.Proofs.YtejogobhnbjpdaaDoor
