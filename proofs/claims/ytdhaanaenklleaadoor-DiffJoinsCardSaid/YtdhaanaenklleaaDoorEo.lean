/- Walks: the document's changes. -/
import Derived.Test.YtdhaanaenklleaaDoorEn
namespace Go.Proofs.YtdhaanaenklleaaDoor
set_option linter.unusedVariables false
set_option linter.unusedSimpArgs false
open Go.ChangeShapes Go.WideShapes Go.ChangeAt Go.RowKit

theorem out_append {P : Program} {o : Oper} {ρ : Operand → Value} {w w' : World} {v u v' : Value} {φ : Value → World → Prop} (s x : Operand) (t : TypeId) (ho : o.op = .call { callee := .builtin .append, args := #[s, x], argTypes := #[t, t] })
    (hs : ρ s = v) (hx : ρ x = u) (hr : (Builtin.append_ #[t, t] o.type #[v, u]).run P w = .ok v' w') (hφ : φ v' w') : Out P o ρ w φ := by
  refine out_run (v := v') (w' := w') ?_ hφ
  unfold execOp
  simp only [ho, resolve, invoke, builtin, Sem.run_bind, Sem.run_pure, Result.andThen_ok, List.map_toArray, List.map_cons, List.map_nil, hs, hx, hr]
def NewC (N0 : Nat) : Value → World → Prop := fun v w => ∃ B, v = .slice (some ⟨B, 0, none⟩) 0 0 ∧ N0 ≤ B ∧ w.heap[B]? = some (.cells #[] 77 (0, 0))
theorem NewC.st1 (N0 : Nat) : St1 (NewC N0) := fun v w1 w2 ⟨B, h1, h2, h3⟩ hB => ⟨B, h1, h2, by rw [hB.block B (lt_of_block h3), h3]⟩
structure RowC (N0 : Nat) (l : List D.Chg) (v : Value) (w : World) : Prop where
  own : w.ownsRow N0 77 2 v l.length (flatD l)
theorem RowC.st1 (N0 : Nat) (l : List D.Chg) : St1 (RowC N0 l) := fun v w1 w2 h hB => ⟨own_below h.own hB⟩
theorem chg_block {w : World} {B : Nat} {z : ByteArray} {k : Int} (h : w.heap[B]? = some (.cells #[.string z, .int .i64 k] 77 (0, 0))) : ChgAt w (.slice (some ⟨B, 0, none⟩) 1 1) [(z, k)] := by
  refine .inr ⟨B, 0, 1, rfl, lt_of_block h, Nat.le_refl _, by decide, fun j x hx => ?_⟩
  rw [block_cell h]
  simpa [flatD] using hx
theorem ChgAt.shape {w : World} {v : Value} {L : List D.Chg} {ln : Nat} (hln : ln = L.length) (h : ChgAt w v L) : ∃ p cap, v = .slice p ln cap ∧ (0 < ln → ∃ g o, p = some ⟨g, o, none⟩ ∧ g < w.heap.size ∧ ln ≤ cap ∧ cap ≤ 9223372036854775807 ∧ ∀ k, ∀ hk : k < L.length, w.cell? ⟨g, o + k * 2, none⟩ = some (.string L[k].1)) := by
  subst hln
  rcases h with ⟨p, cap, rfl, rfl⟩ | ⟨b, off, cap, rfl, hb, hcap, hmax, hcell⟩
  · exact ⟨p, cap, rfl, fun h => by simp at h⟩
  · refine ⟨_, cap, rfl, fun _ => ⟨b, off, rfl, hb, hcap, by unfold maxLen at hmax; omega, fun k hk => ?_⟩⟩
    have := flatD_at L k L[k] (List.getElem?_eq_getElem hk) 0 (by decide)
    exact hcell (k * 2) _ (by simpa using this)
theorem atL_next {L : List D.Chg} {z : ByteArray} {n : Nat} (hn : n < L.length) : D.atL cmpP L z (n + 1) = if 0 < cmpP L[n].1 z then D.atL cmpP L z n else n + 1 := by
  have e : L.getD n (ByteArray.empty, 0) = L[n] := by simp [List.getD, hn]
  show (if 0 < cmpP (L.getD n (ByteArray.empty, 0)).1 z then _ else _) = _
  rw [e]

set_option maxRecDepth 100000 in
set_option maxHeartbeats 8000000 in
theorem of_any (v u : Value) (a b : List Inp) (w : World) (hv : Rows w 33 inpR v a) (hu : Rows w 33 inpR u b) (hza : ∀ x ∈ a, x.1.size ≤ 4096) (hzb : ∀ x ∈ b, x.1.size ≤ 4096) (hla : a.length ≤ 60) (hlb : b.length ≤ 60) :
    Calls Tryd.prog 44 #[v, u] w fun e w' => ∃ vo, e = .returned vo ∧ w'.ownsRow w.heap.size 77 2 vo (D.ofL cmpP a b (D.baseL b a)).length (flatD (D.ofL cmpP a b (D.baseL b a))) ∧ Below w.heap.size w w' := by
  have HT := Lib.hid (fun z w1 (h1 : Below w.heap.size w w1) => at_any u b z w1 (hu.below h1) (by omega))
  have HT2 := Lib.hid (fun z w1 (h1 : Below w.heap.size w w1) => at_any v a z w1 (hv.below h1) (by omega))
  obtain ⟨pa, capa, rfl, hpa⟩ := hv.shape
  obtain ⟨pb, capb, rfl, hpb⟩ := hu.shape
  obtain ⟨la, ha⟩ : ∃ la, la = a.length := ⟨_, rfl⟩
  obtain ⟨lb, hb⟩ : ∃ lb, lb = b.length := ⟨_, rfl⟩
  rw [← ha] at hpa hla HT2 ⊢
  rw [← hb] at hpb hlb HT ⊢
  have Hpa := Lib.hid hpa
  have Hpb := Lib.hid hpb
  have Ha := Lib.hid ha
  have Hb := Lib.hid hb
  have Hza := Lib.hid hza
  have Hzb := Lib.hid hzb
  clear hv hu hpa hpb ha hb hza hzb
  go_enter Tryd.func44, Tryd.ntmps44
  go_wp2_with fail
  go_loopg [5, 14] la (fun g vo iv wr => ∃ k : Nat, k + g = la ∧ iv = .int .i64 k ∧ Lo w (D.baseL b (a.take k)) vo wr)
  case atStart => exact ⟨0, by omega, rfl, ⟨rfl, .inl ⟨rfl, rfl⟩⟩, Below.refl _ _⟩
  case round =>
    obtain ⟨k, hkg, rfl, hLo⟩ := hrel
    have HLo := Lib.hid hLo
    clear hLo
    by_cases hlt : k < la
    · have hltI : (k : Int) < (la : Int) := by omega
      have hka : k < a.length := by have := Ha.out; omega
      have hlen : (D.baseL b (a.take k)).length ≤ 60 := by have := base_len b (a.take k); rw [List.length_take] at this; omega
      have htk := List.take_succ_eq_append_getElem hka
      obtain ⟨g1, o1, rfl, hg1, hcap1, hmax1, hcell1⟩ := Hpa.out (by omega)
      obtain ⟨f, hf⟩ : ∃ f, f = a[k] := ⟨_, rfl⟩
      obtain ⟨ecs, he, hl33, hat⟩ := hcell1 k f (by rw [hf]; exact List.getElem?_eq_getElem hka)
      obtain ⟨z, dv, ⟨⟩⟩ := f
      obtain ⟨rfl, hsz, h32⟩ := inp_cells he
      simp only at hsz h32 hat hl33
      have Hrg := Lib.hid (show wr.rangeAt g1 (o1 + k * 33) (.string z :: bytV dv) from fun j y hy => by
        have hj := (List.getElem?_eq_some_iff.1 hy).1
        rw [← hy, ← hat j (by omega)]
        exact HLo.out.bl.cell (p := ⟨g1, o1 + k * 33 + j, none⟩) hg1)
      have hbox := fun old => box_cell wr old z dv
      have Hone := Lib.hid (one_cells z dv)
      have hi0 : (Tryd.prog.info? 113).map (·.size) = some 33 := by kernel_rfl
      have Hi1 := Lib.hid (show (Tryd.prog.info? 113).map (·.size) = some (Value.string z :: bytV dv).length by rw [hi0, hl33])
      have Hi2 := Lib.hid (show (Tryd.prog.info? 113).map (·.size) = some ((Value.string z :: bytV dv).toArray).size by rw [hi0, List.size_toArray, hl33])
      have Hsz := Lib.hid (show 33 = ((Value.string z :: bytV dv).toArray).size by rw [List.size_toArray, hl33])
      have Hbx := Lib.hid (fun old ho => box_made wr old z dv ho h32)
      have hzs : z.size ≤ 4096 := by have := Hza.out _ (List.getElem_mem hka); rw [← hf] at this; exact this
      have Hf := Lib.hid hf
      have H32 := Lib.hid h32
      unfold maxLen at hmax1
      clear he hat hcell1 hi0 h32 hl33 hf
      have Hnone := Lib.hid (fun (h : D.look b z = none) => (by rw [htk, ← Hf.out]; exact baseL_none (f := (z, dv, ())) h : D.baseL b (a.take (k + 1)) = D.baseL b (a.take k) ++ [(z, 2)]))
      have Hsame := Lib.hid (fun d (h : D.look b z = some d) (e : d = dv) => (by rw [htk, ← Hf.out]; exact base_same (f := (z, dv, ())) h e : D.baseL b (a.take (k + 1)) = D.baseL b (a.take k)))
      have Hdiff := Lib.hid (fun d (h : D.look b z = some d) (e : ¬ d = dv) => (by rw [htk, ← Hf.out]; exact base_diff (f := (z, dv, ())) h e : D.baseL b (a.take (k + 1)) = D.baseL b (a.take k) ++ [(z, 3)]))
      clear htk
      generalize D.baseL b (a.take k) = L at *
      go_wp2_with (first | (refine wpList_load_mid rfl 113 (.tmp 16) rfl g1 (o1 + k * 33) rfl (.string z :: bytV dv) _ Hrg.out Tryd.underlying113 rfl Hi1.out ?_) | (refine wpList_store_rowTo rfl 113 (.tmp 7) (.tmp 17) rfl rfl wr.heap.size (Value.string z :: bytV dv).toArray rfl rfl 113 _ (heap_alloc_new wr _) Hi2.out (by rw [← Hsz.out]; rfl) Hone.out ?_))
      refine (HT.out z _ (HLo.out.bl.trans ((Hbx.out _ (by rfl)).b.mono HLo.out.bl.size))).mono ?_
      rintro e w2 ⟨⟨i, rfl, hi⟩, hB2⟩
      have HBx := Lib.hid ((Hbx.out _ (by rfl)).below hB2)
      have HLo2 := Lib.hid (HLo.out.below HBx.out.b)
      have kbx := HBx.out.c
      have Hrest := Lib.hid hi
      clear hB2 hbox Hbx Hrg Hone Hi1 Hi2 Hsz hi
      rcases Hrest.out with ⟨hi, hl⟩ | ⟨q, hi, hq, hl⟩
      · subst hi
        have Hl := Lib.hid (Hnone.out hl)
        clear hl
        go_wp2_with (at_builtin; go_must (refine wpList_append_chg rfl (.tmp 24) (.tmp 28) rfl rfl w.heap.size _ L rfl (own_below HLo2.out.ow ((Below.refl _ _).alloc (Nat.le_refl _) _)) _ [(z, 2)] (chg_lit w2 z 2) rfl (by simp only [List.length_cons, List.length_nil]; omega) (by have := HLo2.out.bl.size; simp; omega) ?_); intro v3 w3 ho3 hg3; have HL3 := Lib.hid ((HLo2.out.below ((Below.refl _ _).alloc (Nat.le_refl _) _)).put ho3 hg3); clear ho3 hg3)
        go_roundg (gk - 1)
        case measure => omega
        case rel => exact ⟨k + 1, by omega, by go_num, by rw [Hl.out]; exact HL3.out⟩
      · subst hi
        have hqb : q < lb := by have := Hb.out; omega
        obtain ⟨g2, o2, rfl, hg2, hcap2, hmax2, hcell2⟩ := Hpb.out (by omega)
        obtain ⟨ecs2, he2, hl332, hat2⟩ := hcell2 q b[q] (List.getElem?_eq_getElem hq)
        obtain ⟨rfl, hsz2, h322⟩ := inp_cells he2
        generalize b[q].2.1 = d2 at *
        generalize b[q].1 = z2 at *
        have hr2 : w.rangeAt g2 (o2 + q * 33 + 1) (bytV d2) := fun j y hy => by
          have hj := (List.getElem?_eq_some_iff.1 hy).1
          rw [bytV_len, h322] at hj
          have := hat2 (j + 1) (by omega)
          rw [List.getElem?_cons_succ, hy] at this
          rw [← this]
          congr 2
          omega
        have HQ1 := Lib.hid (fun v1 (h1 : Below w2.heap.size w2 v1) => run_loadVar_mid (P := Tryd.prog) v1 g2 (o2 + q * 33 + 1) 37 (bytV d2) _ (fun j y hy => ((HLo2.out.bl.trans (h1.mono HLo2.out.bl.size)).cell (p := ⟨g2, o2 + q * 33 + 1 + j, none⟩) hg2).trans (hr2 j y hy)) Tryd.underlying37 rfl (by rw [bytV_len, h322]; kernel_rfl))
        have HQ2 := Lib.hid (fun v1 (h1 : Below w2.heap.size w2 v1) => run_loadVar_mid (P := Tryd.prog) v1 wr.heap.size 1 37 (bytV dv) _ (fun j y hy => ((h1.cell (p := ⟨wr.heap.size, 1 + j, none⟩) HBx.out.lt)).trans (HBx.out.r j y hy)) Tryd.underlying37 rfl (by rw [bytV_len, H32.out]; kernel_rfl))
        have heq := fun v1 => eq_id h322 H32.out v1
        obtain ⟨r, hr⟩ : ∃ r, r = decide (d2 = dv) := ⟨_, rfl⟩
        rw [← hr] at heq
        have Hr := Lib.hid hr
        have Hl := Lib.hid hl
        have hqI : ¬ (q : Int) < 0 := by omega
        have hqI2 : (q : Int) < (lb : Int) := by omega
        unfold maxLen at hmax2
        clear hr hl hat2 he2 hcell2 hr2 h322 hl332
        cases r with
        | true =>
          have Hn := Lib.hid (Hsame.out _ Hl.out (of_decide_eq_true Hr.out.symm))
          go_wp2_with fail
          refine wp_region_class (Below w2.heap.size w2) (by kernel_rfl) (by kernel_rfl) (Below.refl _ _).drew ?_
          repeat (go_big_quiet_step (first | (intro _; rfl)))
          refine wpQuiet_load_at rfl 37 (.tmp 33) rfl ⟨g2, o2 + q * 33 + 1, none⟩ rfl (.agg (bytV d2).toArray) HQ1.out ?_
          simp only [Act.put, List.setIfInBounds_toArray, List.set_cons_succ, List.set_cons_zero]
          repeat (go_big_quiet_step (first | (intro _; rfl)))
          refine wpQuiet_load_at rfl 37 (.tmp 35) rfl ⟨wr.heap.size, 1, none⟩ rfl (.agg (bytV dv).toArray) HQ2.out ?_
          simp only [Act.put, List.setIfInBounds_toArray, List.set_cons_succ, List.set_cons_zero]
          repeat (go_big_quiet_step (first | (intro _; rfl)))
          refine wpQuiet_nil ?_
          intro w5 hBq
          have HLo5 := Lib.hid (HLo2.out.below hBq)
          have kb5 := (HBx.out.below hBq).c
          clear hBq heq
          go_wp2_with fail
          go_roundg (gk - 1)
          case measure => omega
          case rel => exact ⟨k + 1, by omega, by go_num, by rw [Hn.out]; exact HLo5.out⟩
        | false =>
          have Hn := Lib.hid (Hdiff.out _ Hl.out (of_decide_eq_false Hr.out.symm))
          go_wp2_with fail
          refine wp_region_class (Below w2.heap.size w2) (by kernel_rfl) (by kernel_rfl) (Below.refl _ _).drew ?_
          repeat (go_big_quiet_step (first | (intro _; rfl)))
          refine wpQuiet_load_at rfl 37 (.tmp 33) rfl ⟨g2, o2 + q * 33 + 1, none⟩ rfl (.agg (bytV d2).toArray) HQ1.out ?_
          simp only [Act.put, List.setIfInBounds_toArray, List.set_cons_succ, List.set_cons_zero]
          repeat (go_big_quiet_step (first | (intro _; rfl)))
          refine wpQuiet_load_at rfl 37 (.tmp 35) rfl ⟨wr.heap.size, 1, none⟩ rfl (.agg (bytV dv).toArray) HQ2.out ?_
          simp only [Act.put, List.setIfInBounds_toArray, List.set_cons_succ, List.set_cons_zero]
          repeat (go_big_quiet_step (first | (intro _; rfl)))
          refine wpQuiet_nil ?_
          intro w5 hBq
          have HLo5 := Lib.hid (HLo2.out.below hBq)
          have kb5 := (HBx.out.below hBq).c
          clear hBq heq
          go_wp2_with (at_builtin; go_must (refine wpList_append_chg rfl (.tmp 38) (.tmp 42) rfl rfl w.heap.size _ L rfl (own_below HLo5.out.ow ((Below.refl _ _).alloc (Nat.le_refl _) _)) _ [(z, 3)] (chg_lit w5 z 3) rfl (by simp only [List.length_cons, List.length_nil]; omega) (by have := HLo5.out.bl.size; simp; omega) ?_); intro v3 w3 ho3 hg3; have HL3 := Lib.hid ((HLo5.out.below ((Below.refl _ _).alloc (Nat.le_refl _) _)).put ho3 hg3); clear ho3 hg3)
          go_roundg (gk - 1)
          case measure => omega
          case rel => exact ⟨k + 1, by omega, by go_num, by rw [Hn.out]; exact HL3.out⟩
    · have hnI : ¬ (k : Int) < (la : Int) := by omega
      have HL1 := Lib.hid (show Lo w (D.baseL b a) u5 wr by have := HLo.out; rwa [List.take_of_length_le (by have := Ha.out; omega)] at this)
      have Hbl := Lib.hid (show (D.baseL b a).length ≤ 60 by have := base_len b a; have := Ha.out; omega)
      have Hbz := Lib.hid (base_size (b := b) Hza.out)
      clear HLo
      obtain ⟨M, hM⟩ : ∃ M, M = D.baseL b a := ⟨_, rfl⟩
      rw [← hM] at HL1 Hbl Hbz
      have HM := Lib.hid hM
      clear hM
      go_wp2_with fail
      go_loopg [5, 47] lb (fun g vo iv wr => ∃ k : Nat, k + g = lb ∧ iv = .int .i64 k ∧ Lo w (D.ofL cmpP a (b.take k) M) vo wr)
      case atStart => exact ⟨0, by omega, rfl, HL1.out⟩
      case round =>
        obtain ⟨k, hkg, rfl, hLo⟩ := hrel
        have HLo := Lib.hid hLo
        clear hLo HL1
        by_cases hlt2 : k < lb
        · have hltI : (k : Int) < (lb : Int) := by omega
          have hka : k < b.length := by have := Hb.out; omega
          have hlen : (D.ofL cmpP a (b.take k) M).length ≤ 120 := by have := ofL_len a (b.take k) M; rw [List.length_take] at this; have := Hbl.out; omega
          have Hlz := Lib.hid (ofL_size (a := a) (b := b.take k) (out := M) (fun x hx => Hzb.out x (List.mem_of_mem_take hx)) Hbz.out)
          have htk := List.take_succ_eq_append_getElem hka
          obtain ⟨g1, o1, rfl, hg1, hcap1, hmax1, hcell1⟩ := Hpb.out (by omega)
          obtain ⟨f, hf⟩ : ∃ f, f = b[k] := ⟨_, rfl⟩
          obtain ⟨ecs, he, hl33, hat⟩ := hcell1 k f (by rw [hf]; exact List.getElem?_eq_getElem hka)
          obtain ⟨z, dv, ⟨⟩⟩ := f
          obtain ⟨rfl, hsz, h32⟩ := inp_cells he
          simp only at hsz h32 hat hl33
          have Hrg := Lib.hid (show wr.rangeAt g1 (o1 + k * 33) (.string z :: bytV dv) from fun j y hy => by
            have hj := (List.getElem?_eq_some_iff.1 hy).1
            rw [← hy, ← hat j (by omega)]
            exact HLo.out.bl.cell (p := ⟨g1, o1 + k * 33 + j, none⟩) hg1)
          have hbox := fun old => box_cell wr old z dv
          have Hone := Lib.hid (one_cells z dv)
          have hi0 : (Tryd.prog.info? 113).map (·.size) = some 33 := by kernel_rfl
          have Hi1 := Lib.hid (show (Tryd.prog.info? 113).map (·.size) = some (Value.string z :: bytV dv).length by rw [hi0, hl33])
          have Hi2 := Lib.hid (show (Tryd.prog.info? 113).map (·.size) = some ((Value.string z :: bytV dv).toArray).size by rw [hi0, List.size_toArray, hl33])
          have Hsz := Lib.hid (show 33 = ((Value.string z :: bytV dv).toArray).size by rw [List.size_toArray, hl33])
          have Hbx := Lib.hid (fun old ho => box_made wr old z dv ho h32)
          have hzs : z.size ≤ 4096 := by have := Hzb.out _ (List.getElem_mem hka); rw [← hf] at this; exact this
          have Hf := Lib.hid hf
          have H32 := Lib.hid h32
          unfold maxLen at hmax1
          clear he hat hcell1 hi0 h32 hl33 hf
          have Hnone := Lib.hid (fun (h : D.look a z = none) => (by rw [htk, ← Hf.out]; exact ofL_none (f := (z, dv, ())) h : D.ofL cmpP a (b.take (k + 1)) M = D.insL cmpP (D.ofL cmpP a (b.take k) M) z))
          have Hsome := Lib.hid (fun (h : ¬ D.look a z = none) => (by rw [htk, ← Hf.out]; exact ofL_some (f := (z, dv, ())) h : D.ofL cmpP a (b.take (k + 1)) M = D.ofL cmpP a (b.take k) M))
          clear htk
          generalize D.ofL cmpP a (b.take k) M = L at *
          go_wp2_with (first | (refine wpList_load_mid rfl 113 (.tmp 49) rfl g1 (o1 + k * 33) rfl (.string z :: bytV dv) _ Hrg.out Tryd.underlying113 rfl Hi1.out ?_) | (refine wpList_store_rowTo rfl 113 (.tmp 10) (.tmp 50) rfl rfl wr.heap.size (Value.string z :: bytV dv).toArray rfl rfl 113 _ (heap_alloc_new wr _) Hi2.out (by rw [← Hsz.out]; rfl) Hone.out ?_))
          refine (HT2.out z _ (HLo.out.bl.trans ((Hbx.out _ (by rfl)).b.mono HLo.out.bl.size))).mono ?_
          rintro e w2 ⟨⟨i, rfl, hi⟩, hB2⟩
          have HBx := Lib.hid ((Hbx.out _ (by rfl)).below hB2)
          have HLo2 := Lib.hid (HLo.out.below HBx.out.b)
          have Hrest := Lib.hid hi
          clear hB2 hbox Hbx Hrg Hone Hi1 Hi2 Hsz hi
          rcases Hrest.out with ⟨hi, hl⟩ | ⟨q, hi, hq, hl⟩
          · subst hi
            have Hnx := Lib.hid (Hnone.out hl)
            clear hl
            obtain ⟨ln, hln⟩ : ∃ ln, ln = L.length := ⟨_, rfl⟩
            obtain ⟨p, cap, hvo, hp⟩ := (ChgAt.own HLo2.out.ow).shape hln
            subst hvo
            have Hp3 := Lib.hid hp
            have Hln := Lib.hid hln
            have hln2 : ln ≤ 120 := by omega
            clear hp hln
            obtain ⟨gko, rfl⟩ : ∃ g, g = gk := ⟨gk, rfl⟩
            obtain ⟨wo, rfl⟩ : ∃ wo, wo = wr := ⟨wr, rfl⟩
            go_wp2_with fail
            go_loopg [11] ln (fun g av wr => ∃ n : Nat, n = g ∧ av = .int .i64 n ∧ n ≤ ln ∧ D.atL cmpP L z ln = D.atL cmpP L z n ∧ Below w2.heap.size w2 wr)
            case atStart => exact ⟨ln, rfl, rfl, Nat.le_refl _, rfl, Below.refl _ _⟩
            case round =>
              obtain ⟨n, hng, rfl, hnl, hat, hB⟩ := hrel
              have Hat := Lib.hid hat
              have HBw := Lib.hid hB
              have Hng := Lib.hid hng
              clear hat hB hng
              by_cases h0 : n = 0
              · have hd0 : decide (0 < n) = false := decide_eq_false (by omega)
                have hd0I : decide ((0 : Int) < (n : Int)) = false := decide_eq_false (by omega)
                have Hins := Lib.hid (show D.insL cmpP L z = L.take n ++ [(z, 1)] ++ L.drop n by
                  unfold D.insL
                  rw [← Hln.out, Hat.out, h0]; rfl)
                have hn : n ≤ L.length := by omega
                clear h0
                go_wp2_with fail
                refine wp_region_class (Below wr.heap.size wr) (by kernel_rfl) (by kernel_rfl) (Below.refl _ _).drew ?_
                repeat (go_big_quiet_step (first | (intro _; rfl)))
                refine wpQuiet_nil ?_
                intro w5 hBq
                have hb5 := HBw.out.trans (hBq.mono HBw.out.size)
                have HLo5 := Lib.hid (HLo2.out.below hb5)
                have HBx5 := Lib.hid (HBx.out.below hb5)
                clear hBq hb5
                go_wp2_with fail
                have hd5 : Below w5.heap.size w5 w5.drew := (Below.refl _ _).drew
                obtain ⟨vt, hvt, hct⟩ := chg_take (ChgAt.own HLo5.out.ow) n hn
                obtain ⟨vd, hvd, hcd⟩ := chg_drop (ChgAt.own HLo5.out.ow) n hn
                have Hvt := Lib.hid hvt
                have Hvd := Lib.hid hvd
                replace hct := hct.below hd5
                replace hcd := hcd.below hd5
                have hbd := HBx5.out.below hd5
                clear hvt hvd
                have hRL : ∃ Rs : List (Value → World → Prop), Rs = [NewC w5.heap.size,
                    PureV (.slice p ln cap),
                    PureV (.int .i64 n),
                    PureV (vt),
                    RowC w5.heap.size (L.take n),
                    PureV (.pointer (some ⟨wo.heap.size, 0, none⟩)),
                    PureV (.string z),
                    PureV (.agg #[.string z, .int .i64 1]),
                    NewB 1 #[.string z, .int .i64 1] 77,
                    RowC w5.heap.size (L.take n ++ [(z, 1)]),
                    PureV (.slice p ln cap),
                    PureV (.int .i64 n),
                    PureV (vd),
                    RowC w5.heap.size (L.take n ++ [(z, 1)] ++ L.drop n),
                    RowC w5.heap.size (L.take n ++ [(z, 1)] ++ L.drop n)] := ⟨_, rfl⟩
                obtain ⟨Rs, hRs⟩ := hRL
                refine wp_region_rel (RL Rs) [1, 2, 2, 2, 1, 2, 2, 2, 1, 1, 2, 2, 2, 1, 1] [1, 1, 1, 1, 1, 1, 1, 1, 1, 2, 1, 1, 1, 2, 1] [[], [], [], [], [], [], [], [], [], [0, 4, 8], [], [], [], [0, 4, 8, 9], []] (by kernel_rfl) (by kernel_rfl) (RL.st1 (by rw [hRs]; exact st1_cons (NewC.st1 _) (st1_cons (PureV.st1 _) (st1_cons (PureV.st1 _) (st1_cons (PureV.st1 _) (st1_cons (RowC.st1 _ _) (st1_cons (PureV.st1 _) (st1_cons (PureV.st1 _) (st1_cons (PureV.st1 _) (st1_cons (NewB.st1 _ _ _) (st1_cons (RowC.st1 _ _) (st1_cons (PureV.st1 _) (st1_cons (PureV.st1 _) (st1_cons (PureV.st1 _) (st1_cons (RowC.st1 _ _) (st1_cons (RowC.st1 _ _) (st1_nil))))))))))))))))) (RL.st2 (by rw [hRs]; exact st2_skip (st2_cons (PureV.st2 _ _ _) (st2_cons (PureV.st2 _ _ _) (st2_cons (PureV.st2 _ _ _) (st2_skip (st2_cons (PureV.st2 _ _ _) (st2_cons (PureV.st2 _ _ _) (st2_cons (PureV.st2 _ _ _) (st2_skip (st2_skip (st2_cons (PureV.st2 _ _ _) (st2_cons (PureV.st2 _ _ _) (st2_cons (PureV.st2 _ _ _) (st2_skip (st2_skip (st2_nil))))))))))))))))) ?_ ?_ ?_
                · intro i o d hi hd
                  have hmem := List.mem_of_getElem? hi
                  simp only [List.mem_cons, List.not_mem_nil, or_false] at hmem
                  rcases hmem with rfl | rfl | rfl | rfl | rfl | rfl | rfl | rfl | rfl | rfl | rfl | rfl | rfl | rfl | rfl <;> simp at hd <;> (subst hd; simp)
                · refine rel_start (Φ := Hop _ _ _ _ _ _ _) ?_
                  refine rel_cons (Φ := Hop _ _ _ _ _ _ _) (k := 0) ?_ ?_
                  · intro fa fw hfB hfN hfk hft
                    rw [hRs]
                    refine hop_plain rfl ?_
                    have kc : ∀ v, fa.eval (.const v) = v := fun _ => rfl
                    generalize fa.eval = ρ at *
                    exact out_run (v := .slice (some ⟨fw.heap.size, 0, none⟩) 0 0) (w' := fw.alloc (.cells #[] 77)) (by simp [execOp, kc, go_sem]) ⟨⟨_, rfl, hfN, heap_alloc_new _ _⟩, (Below.refl _ _).alloc (Nat.le_refl _) _⟩
                  refine rel_cons (Φ := Hop _ _ _ _ _ _ _) (k := 1) ?_ ?_
                  · intro fa fw hfB hfN hfk hft
                    have k5 : fa.eval (.tmp 5) = .slice p ln cap := hft 5 (mem_looks (by kernel_rfl)) (noneed (by kernel_rfl))
                    rw [hRs]
                    refine hop_plain rfl ?_
                    refine out_move rfl ?_
                    exact ⟨k5, Below.refl _ _⟩
                  refine rel_cons (Φ := Hop _ _ _ _ _ _ _) (k := 2) ?_ ?_
                  · intro fa fw hfB hfN hfk hft
                    have k11 : fa.eval (.tmp 11) = .int .i64 n := hft 11 (mem_looks (by kernel_rfl)) (noneed (by kernel_rfl))
                    rw [hRs]
                    refine hop_plain rfl ?_
                    refine out_move rfl ?_
                    exact ⟨k11, Below.refl _ _⟩
                  refine rel_cons (Φ := Hop _ _ _ _ _ _ _) (k := 3) ?_ ?_
                  · intro fa fw hfB hfN hfk hft
                    have k75 : fa.eval (.tmp 75) = (.slice p ln cap) := by have := hfk 1 (mem_needs (by kernel_rfl)) _ rfl; rw [hRs] at this; exact this
                    have k76 : fa.eval (.tmp 76) = (.int .i64 n) := by have := hfk 2 (mem_needs (by kernel_rfl)) _ rfl; rw [hRs] at this; exact this
                    rw [hRs]
                    refine hop_plain rfl ?_
                    have hr := Hvt.out fw
                    exact out_run (v := vt) (w' := fw) (by generalize fa.eval = ρ at *; simp [execOp, k75, k76, hr, go_sem]) ⟨rfl, Below.refl _ _⟩
                  refine rel_cons (Φ := Hop _ _ _ _ _ _ _) (k := 4) ?_ ?_
                  · intro fa fw hfB hfN hfk hft
                    have k74 : (NewC w5.heap.size) (fa.eval (.tmp 74)) fw := by have := hfk 0 (mem_needs (by kernel_rfl)) _ rfl; rw [hRs] at this; exact this
                    have k77 : fa.eval (.tmp 77) = (vt) := by have := hfk 3 (mem_needs (by kernel_rfl)) _ rfl; rw [hRs] at this; exact this
                    rw [hRs]
                    refine hop_plain rfl ?_
                    obtain ⟨B0, hb1, hb2, hb3⟩ := k74
                    obtain ⟨v', w', hr, ho, hB'⟩ := run_append_first fw w5.heap.size B0 _ (L.take n) hb3 hb2 (hct.below hfB) (by rw [List.length_take]; omega) hfN
                    exact out_append (.tmp 74) (.tmp 77) 73 rfl hb1 k77 hr ⟨(show RowC w5.heap.size (L.take n) v' w' from ⟨ho⟩), hB'⟩
                  refine rel_cons (Φ := Hop _ _ _ _ _ _ _) (k := 5) ?_ ?_
                  · intro fa fw hfB hfN hfk hft
                    have k10 : fa.eval (.tmp 10) = .pointer (some ⟨wo.heap.size, 0, none⟩) := hft 10 (mem_looks (by kernel_rfl)) (noneed (by kernel_rfl))
                    rw [hRs]
                    refine hop_plain rfl ?_
                    generalize fa.eval = ρ at *
                    exact out_run (v := .pointer (some ⟨wo.heap.size, 0, none⟩)) (w' := fw) (by simp [execOp, k10, go_sem]) ⟨rfl, Below.refl _ _⟩
                  refine rel_cons (Φ := Hop _ _ _ _ _ _ _) (k := 6) ?_ ?_
                  · intro fa fw hfB hfN hfk hft
                    have k79 : fa.eval (.tmp 79) = (.pointer (some ⟨wo.heap.size, 0, none⟩)) := by have := hfk 5 (mem_needs (by kernel_rfl)) _ rfl; rw [hRs] at this; exact this
                    rw [hRs]
                    refine hop_plain rfl ?_
                    have h := (hfB.cell (p := ⟨wo.heap.size, 0, none⟩) hbd.lt).trans hbd.c
                    generalize fa.eval = ρ at *
                    exact out_run (v := .string z) (w' := fw) (by simp [execOp, k79, h, go_sem]) ⟨rfl, Below.refl _ _⟩
                  refine rel_cons (Φ := Hop _ _ _ _ _ _ _) (k := 7) ?_ ?_
                  · intro fa fw hfB hfN hfk hft
                    have k80 : fa.eval (.tmp 80) = (.string z) := by have := hfk 6 (mem_needs (by kernel_rfl)) _ rfl; rw [hRs] at this; exact this
                    rw [hRs]
                    refine hop_plain rfl ?_
                    have kc : ∀ v, fa.eval (.const v) = v := fun _ => rfl
                    generalize fa.eval = ρ at *
                    exact out_run (v := .agg #[.string z, .int .i64 1]) (w' := fw) (by simp [execOp, kc, k80, go_sem]) ⟨rfl, Below.refl _ _⟩
                  refine rel_cons (Φ := Hop _ _ _ _ _ _ _) (k := 8) ?_ ?_
                  · intro fa fw hfB hfN hfk hft
                    have k81 : fa.eval (.tmp 81) = (.agg #[.string z, .int .i64 1]) := by have := hfk 7 (mem_needs (by kernel_rfl)) _ rfl; rw [hRs] at this; exact this
                    rw [hRs]
                    refine hop_plain rfl ?_
                    have kc : ∀ v, fa.eval (.const v) = v := fun _ => rfl
                    generalize fa.eval = ρ at *
                    exact out_run (v := .slice (some ⟨fw.heap.size, 0, none⟩) 1 1) (w' := fw.alloc (.cells #[.string z, .int .i64 1] 77)) (by simp [execOp, kc, k81, go_sem]) ⟨⟨_, rfl, heap_alloc_new _ _⟩, (Below.refl _ _).alloc (Nat.le_refl _) _⟩
                  refine rel_cons (Φ := Hop _ _ _ _ _ _ _) (k := 9) ?_ ?_
                  · intro fa fw hfB hfN hfk hft
                    have k78 : (RowC w5.heap.size (L.take n)) (fa.eval (.tmp 78)) fw := by have := hfk 4 (mem_needs (by kernel_rfl)) _ rfl; rw [hRs] at this; exact this
                    have k82 : (NewB 1 #[.string z, .int .i64 1] 77) (fa.eval (.tmp 82)) fw := by have := hfk 8 (mem_needs (by kernel_rfl)) _ rfl; rw [hRs] at this; exact this
                    rw [hRs]
                    refine hop_plain rfl ?_
                    obtain ⟨ho0⟩ := k78
                    obtain ⟨B1, hb1, hb2⟩ := k82
                    obtain ⟨v', w', hr, ho, hg⟩ := run_append_chg fw w5.heap.size _ _ _ _ [(z, 1)] ho0 (chg_block hb2) (by simp only [List.length_append, List.length_take, List.length_drop, List.length_cons, List.length_nil]; omega) hfN
                    refine out_append (.tmp 78) (.tmp 82) 73 rfl rfl hb1 hr ⟨(show RowC w5.heap.size (L.take n ++ [(z, 1)]) v' w' from ⟨by rw [List.length_append, flatD_app]; exact ho⟩), ?_⟩
                    exact (Below.refl _ _).grown hg hfN (fun k hk => (ho0.lt k hk).1)
                  refine rel_cons (Φ := Hop _ _ _ _ _ _ _) (k := 10) ?_ ?_
                  · intro fa fw hfB hfN hfk hft
                    have k5 : fa.eval (.tmp 5) = .slice p ln cap := hft 5 (mem_looks (by kernel_rfl)) (noneed (by kernel_rfl))
                    rw [hRs]
                    refine hop_plain rfl ?_
                    refine out_move rfl ?_
                    exact ⟨k5, Below.refl _ _⟩
                  refine rel_cons (Φ := Hop _ _ _ _ _ _ _) (k := 11) ?_ ?_
                  · intro fa fw hfB hfN hfk hft
                    have k11 : fa.eval (.tmp 11) = .int .i64 n := hft 11 (mem_looks (by kernel_rfl)) (noneed (by kernel_rfl))
                    rw [hRs]
                    refine hop_plain rfl ?_
                    refine out_move rfl ?_
                    exact ⟨k11, Below.refl _ _⟩
                  refine rel_cons (Φ := Hop _ _ _ _ _ _ _) (k := 12) ?_ ?_
                  · intro fa fw hfB hfN hfk hft
                    have k84 : fa.eval (.tmp 84) = (.slice p ln cap) := by have := hfk 10 (mem_needs (by kernel_rfl)) _ rfl; rw [hRs] at this; exact this
                    have k85 : fa.eval (.tmp 85) = (.int .i64 n) := by have := hfk 11 (mem_needs (by kernel_rfl)) _ rfl; rw [hRs] at this; exact this
                    rw [hRs]
                    refine hop_plain rfl ?_
                    have hr := Hvd.out fw
                    exact out_run (v := vd) (w' := fw) (by generalize fa.eval = ρ at *; simp [execOp, k84, k85, hr, go_sem]) ⟨rfl, Below.refl _ _⟩
                  refine rel_cons (Φ := Hop _ _ _ _ _ _ _) (k := 13) ?_ ?_
                  · intro fa fw hfB hfN hfk hft
                    have k83 : (RowC w5.heap.size (L.take n ++ [(z, 1)])) (fa.eval (.tmp 83)) fw := by have := hfk 9 (mem_needs (by kernel_rfl)) _ rfl; rw [hRs] at this; exact this
                    have k86 : fa.eval (.tmp 86) = (vd) := by have := hfk 12 (mem_needs (by kernel_rfl)) _ rfl; rw [hRs] at this; exact this
                    rw [hRs]
                    refine hop_plain rfl ?_
                    obtain ⟨ho0⟩ := k83
                    obtain ⟨v', w', hr, ho, hg⟩ := run_append_chg fw w5.heap.size _ _ _ _ (L.drop n) ho0 (hcd.below hfB) (by simp only [List.length_append, List.length_take, List.length_drop, List.length_cons, List.length_nil]; omega) hfN
                    refine out_append (.tmp 83) (.tmp 86) 73 rfl rfl k86 hr ⟨(show RowC w5.heap.size (L.take n ++ [(z, 1)] ++ L.drop n) v' w' from ⟨by rw [List.length_append, flatD_app]; exact ho⟩), ?_⟩
                    exact (Below.refl _ _).grown hg hfN (fun k hk => (ho0.lt k hk).1)
                  refine rel_cons (Φ := Hop _ _ _ _ _ _ _) (k := 14) ?_ ?_
                  · intro fa fw hfB hfN hfk hft
                    have k87 : (RowC w5.heap.size (L.take n ++ [(z, 1)] ++ L.drop n)) (fa.eval (.tmp 87)) fw := by have := hfk 13 (mem_needs (by kernel_rfl)) _ rfl; rw [hRs] at this; exact this
                    rw [hRs]
                    refine hop_plain rfl ?_
                    refine out_assign rfl ?_
                    exact ⟨k87, Below.refl _ _⟩
                  exact rel_nil
                · intro fa fw hfB hfy hff hfs hfd
                  rw [hRs] at hfy
                  have k5 : (RowC w5.heap.size (L.take n ++ [(z, 1)] ++ L.drop n)) (fa.eval (.tmp 5)) fw := hfy 14 _ rfl (unkilled (by decide))
                  replace k5 : RowC w5.heap.size (L.take n ++ [(z, 1)] ++ L.drop n) (fa.tmps.getD 5 undef) fw := k5
                  have HBf := Lib.hid (show Below w.heap.size w fw from HLo5.out.bl.drew.trans (hfB.mono HLo5.out.bl.size))
                  have e := rel_frame [74, 75, 76, 77, 78, 79, 80, 81, 82, 83, 84, 85, 86, 87, 5] (by kernel_rfl) hff hfs hfd
                  simp only [List.foldl] at e
                  clear hfy hff hfs hfd 
                  generalize fa.tmps.getD 74 undef = x74 at e
                  generalize fa.tmps.getD 75 undef = x75 at e
                  generalize fa.tmps.getD 76 undef = x76 at e
                  generalize fa.tmps.getD 77 undef = x77 at e
                  generalize fa.tmps.getD 78 undef = x78 at e
                  generalize fa.tmps.getD 79 undef = x79 at e
                  generalize fa.tmps.getD 80 undef = x80 at e
                  generalize fa.tmps.getD 81 undef = x81 at e
                  generalize fa.tmps.getD 82 undef = x82 at e
                  generalize fa.tmps.getD 83 undef = x83 at e
                  generalize fa.tmps.getD 84 undef = x84 at e
                  generalize fa.tmps.getD 85 undef = x85 at e
                  generalize fa.tmps.getD 86 undef = x86 at e
                  generalize fa.tmps.getD 87 undef = x87 at e
                  generalize fa.tmps.getD 5 undef = x5 at e k5
                  simp [List.setIfInBounds_toArray, List.set_cons_succ, List.set_cons_zero] at e
                  subst e
                  have HLn := Lib.hid (show Lo w (D.insL cmpP L z) x5 fw from ⟨by rw [Hins.out]; exact World.ownsRow.mono k5.own HLo5.out.bl.size, HBf.out⟩)
                  clear k5
                  go_wp2_with fail
                  go_roundg (gko - 1)
                  case measure => omega
                  case rel => exact ⟨k + 1, by omega, by go_num, by rw [Hnx.out]; exact HLn.out⟩
              · obtain ⟨m, hm⟩ : ∃ m, n = m + 1 := ⟨n - 1, by omega⟩
                have hmL : m < L.length := by have := Hln.out; omega
                obtain ⟨g3, o3, rfl, hg3, hcap3, hmax3, hcell3⟩ := Hp3.out (by omega)
                have hc3 := hcell3 m hmL
                have hxs := Hlz.out _ (List.getElem_mem hmL)
                have hx1 : L[m].1.size ≤ 1073741824 := by omega
                have hx2 : z.size ≤ 1073741824 := by omega
                have HQ1 := Lib.hid (fun w1 (h1 : Below wr.heap.size wr w1) => (by have h := ((HBw.out.trans (h1.mono HBw.out.size)).cell (p := ⟨g3, o3 + m * 2, none⟩) hg3).trans hc3; simp [go_sem, h] : (loadVar 9 ⟨g3, o3 + m * 2, none⟩).run Tryd.prog w1 = .ok (.string L[m].1) w1))
                have HQ2 := Lib.hid (fun w1 (h1 : Below wr.heap.size wr w1) => (by have h := (HBx.out.below (HBw.out.trans (h1.mono HBw.out.size))).c; simp [go_sem, h] : (loadVar 9 ⟨wo.heap.size, 0, none⟩).run Tryd.prog w1 = .ok (.string z) w1))
                have HC := Lib.hid (fun w1 (h1 : Below wr.heap.size wr w1) => (refCmp_any L[m].1 z w1 hx1 hx2).mono (fun e w2 hh => (⟨hh.1, h1.trans (hh.2.mono h1.size)⟩ : e = .returned (.int .i64 (cmpP L[m].1 z)) ∧ Below wr.heap.size wr w2)))
                have Hnxt := Lib.hid (atL_next (z := z) hmL)
                obtain ⟨od, hod⟩ : ∃ od, od = cmpP L[m].1 z := ⟨_, rfl⟩
                rw [← hod] at HC Hnxt
                obtain ⟨x, hx⟩ : ∃ x, x = L[m].1 := ⟨_, rfl⟩
                rw [← hx] at HQ1 HC
                have hix : (n : Int) - 1 = (m : Int) := by omega
                have hmI : (m : Int) < (ln : Int) := by omega
                have hd0 : decide (0 < n) = true := decide_eq_true (by omega)
                have hd0I : decide ((0 : Int) < (n : Int)) = true := decide_eq_true (by omega)
                have Hm := Lib.hid hm
                clear hcell3 hc3 hxs hx1 hx2 hod hx hm h0
                by_cases hgt : 0 < od
                · go_wp2_with fail
                  refine wp_region_class (Below wr.heap.size wr) (by kernel_rfl) (by kernel_rfl) (Below.refl _ _).drew ?_
                  repeat (go_big_quiet_step (first | (intro hh; with_reducible exact HC.out _ hh) | (intro _; rfl)))
                  refine wpQuiet_load_at rfl 9 (.tmp 65) rfl ⟨g3, o3 + m * 2, none⟩ rfl (.string x) HQ1.out ?_
                  simp only [Act.put, List.setIfInBounds_toArray, List.set_cons_succ, List.set_cons_zero]
                  repeat (go_big_quiet_step (first | (intro hh; with_reducible exact HC.out _ hh) | (intro _; rfl)))
                  refine wpQuiet_load_at rfl 9 (.tmp 67) rfl ⟨wo.heap.size, 0, none⟩ rfl (.string z) HQ2.out ?_
                  simp only [Act.put, List.setIfInBounds_toArray, List.set_cons_succ, List.set_cons_zero]
                  repeat (go_big_quiet_step (first | (intro hh; with_reducible exact HC.out _ hh) | (intro _; rfl)))
                  refine wpQuiet_nil ?_
                  intro w5 hBq
                  have Hb5 := Lib.hid (HBw.out.trans (hBq.mono HBw.out.size))
                  clear hBq
                  go_wp2_with fail
                  go_roundg (gk - 1)
                  case measure => have := Hm.out; have := Hng.out; omega
                  case rel => exact ⟨m, by have := Hm.out; have := Hng.out; omega, by go_num, by omega, by rw [Hat.out, Hm.out, Hnxt.out, if_pos hgt], Hb5.out⟩
                · have Hins := Lib.hid (show D.insL cmpP L z = L.take n ++ [(z, 1)] ++ L.drop n by
                    unfold D.insL
                    rw [← Hln.out, Hat.out, Hm.out, Hnxt.out, if_neg hgt])
                  go_wp2_with fail
                  refine wp_region_class (Below wr.heap.size wr) (by kernel_rfl) (by kernel_rfl) (Below.refl _ _).drew ?_
                  repeat (go_big_quiet_step (first | (intro hh; with_reducible exact HC.out _ hh) | (intro _; rfl)))
                  refine wpQuiet_load_at rfl 9 (.tmp 65) rfl ⟨g3, o3 + m * 2, none⟩ rfl (.string x) HQ1.out ?_
                  simp only [Act.put, List.setIfInBounds_toArray, List.set_cons_succ, List.set_cons_zero]
                  repeat (go_big_quiet_step (first | (intro hh; with_reducible exact HC.out _ hh) | (intro _; rfl)))
                  refine wpQuiet_load_at rfl 9 (.tmp 67) rfl ⟨wo.heap.size, 0, none⟩ rfl (.string z) HQ2.out ?_
                  simp only [Act.put, List.setIfInBounds_toArray, List.set_cons_succ, List.set_cons_zero]
                  repeat (go_big_quiet_step (first | (intro hh; with_reducible exact HC.out _ hh) | (intro _; rfl)))
                  refine wpQuiet_nil ?_
                  intro w5 hBq
                  have Hb5 := Lib.hid (HBw.out.trans (hBq.mono HBw.out.size))
                  clear hBq
                  have HLo5 := Lib.hid (HLo2.out.below Hb5.out)
                  have HBx5 := Lib.hid (HBx.out.below Hb5.out)
                  have hn : n ≤ L.length := by have := Hln.out; have := Hm.out; omega
                  go_wp2_with fail
                  have hd5 : Below w5.heap.size w5 w5.drew := (Below.refl _ _).drew
                  obtain ⟨vt, hvt, hct⟩ := chg_take (ChgAt.own HLo5.out.ow) n hn
                  obtain ⟨vd, hvd, hcd⟩ := chg_drop (ChgAt.own HLo5.out.ow) n hn
                  have Hvt := Lib.hid hvt
                  have Hvd := Lib.hid hvd
                  replace hct := hct.below hd5
                  replace hcd := hcd.below hd5
                  have hbd := HBx5.out.below hd5
                  clear hvt hvd
                  have hRL : ∃ Rs : List (Value → World → Prop), Rs = [NewC w5.heap.size,
                      PureV (.slice (some ⟨g3, o3, none⟩) ln cap),
                      PureV (.int .i64 n),
                      PureV (vt),
                      RowC w5.heap.size (L.take n),
                      PureV (.pointer (some ⟨wo.heap.size, 0, none⟩)),
                      PureV (.string z),
                      PureV (.agg #[.string z, .int .i64 1]),
                      NewB 1 #[.string z, .int .i64 1] 77,
                      RowC w5.heap.size (L.take n ++ [(z, 1)]),
                      PureV (.slice (some ⟨g3, o3, none⟩) ln cap),
                      PureV (.int .i64 n),
                      PureV (vd),
                      RowC w5.heap.size (L.take n ++ [(z, 1)] ++ L.drop n),
                      RowC w5.heap.size (L.take n ++ [(z, 1)] ++ L.drop n)] := ⟨_, rfl⟩
                  obtain ⟨Rs, hRs⟩ := hRL
                  refine wp_region_rel (RL Rs) [1, 2, 2, 2, 1, 2, 2, 2, 1, 1, 2, 2, 2, 1, 1] [1, 1, 1, 1, 1, 1, 1, 1, 1, 2, 1, 1, 1, 2, 1] [[], [], [], [], [], [], [], [], [], [0, 4, 8], [], [], [], [0, 4, 8, 9], []] (by kernel_rfl) (by kernel_rfl) (RL.st1 (by rw [hRs]; exact st1_cons (NewC.st1 _) (st1_cons (PureV.st1 _) (st1_cons (PureV.st1 _) (st1_cons (PureV.st1 _) (st1_cons (RowC.st1 _ _) (st1_cons (PureV.st1 _) (st1_cons (PureV.st1 _) (st1_cons (PureV.st1 _) (st1_cons (NewB.st1 _ _ _) (st1_cons (RowC.st1 _ _) (st1_cons (PureV.st1 _) (st1_cons (PureV.st1 _) (st1_cons (PureV.st1 _) (st1_cons (RowC.st1 _ _) (st1_cons (RowC.st1 _ _) (st1_nil))))))))))))))))) (RL.st2 (by rw [hRs]; exact st2_skip (st2_cons (PureV.st2 _ _ _) (st2_cons (PureV.st2 _ _ _) (st2_cons (PureV.st2 _ _ _) (st2_skip (st2_cons (PureV.st2 _ _ _) (st2_cons (PureV.st2 _ _ _) (st2_cons (PureV.st2 _ _ _) (st2_skip (st2_skip (st2_cons (PureV.st2 _ _ _) (st2_cons (PureV.st2 _ _ _) (st2_cons (PureV.st2 _ _ _) (st2_skip (st2_skip (st2_nil))))))))))))))))) ?_ ?_ ?_
                  · intro i o d hi hd
                    have hmem := List.mem_of_getElem? hi
                    simp only [List.mem_cons, List.not_mem_nil, or_false] at hmem
                    rcases hmem with rfl | rfl | rfl | rfl | rfl | rfl | rfl | rfl | rfl | rfl | rfl | rfl | rfl | rfl | rfl <;> simp at hd <;> (subst hd; simp)
                  · refine rel_start (Φ := Hop _ _ _ _ _ _ _) ?_
                    refine rel_cons (Φ := Hop _ _ _ _ _ _ _) (k := 0) ?_ ?_
                    · intro fa fw hfB hfN hfk hft
                      rw [hRs]
                      refine hop_plain rfl ?_
                      have kc : ∀ v, fa.eval (.const v) = v := fun _ => rfl
                      generalize fa.eval = ρ at *
                      exact out_run (v := .slice (some ⟨fw.heap.size, 0, none⟩) 0 0) (w' := fw.alloc (.cells #[] 77)) (by simp [execOp, kc, go_sem]) ⟨⟨_, rfl, hfN, heap_alloc_new _ _⟩, (Below.refl _ _).alloc (Nat.le_refl _) _⟩
                    refine rel_cons (Φ := Hop _ _ _ _ _ _ _) (k := 1) ?_ ?_
                    · intro fa fw hfB hfN hfk hft
                      have k5 : fa.eval (.tmp 5) = .slice (some ⟨g3, o3, none⟩) ln cap := hft 5 (mem_looks (by kernel_rfl)) (noneed (by kernel_rfl))
                      rw [hRs]
                      refine hop_plain rfl ?_
                      refine out_move rfl ?_
                      exact ⟨k5, Below.refl _ _⟩
                    refine rel_cons (Φ := Hop _ _ _ _ _ _ _) (k := 2) ?_ ?_
                    · intro fa fw hfB hfN hfk hft
                      have k11 : fa.eval (.tmp 11) = .int .i64 n := hft 11 (mem_looks (by kernel_rfl)) (noneed (by kernel_rfl))
                      rw [hRs]
                      refine hop_plain rfl ?_
                      refine out_move rfl ?_
                      exact ⟨k11, Below.refl _ _⟩
                    refine rel_cons (Φ := Hop _ _ _ _ _ _ _) (k := 3) ?_ ?_
                    · intro fa fw hfB hfN hfk hft
                      have k75 : fa.eval (.tmp 75) = (.slice (some ⟨g3, o3, none⟩) ln cap) := by have := hfk 1 (mem_needs (by kernel_rfl)) _ rfl; rw [hRs] at this; exact this
                      have k76 : fa.eval (.tmp 76) = (.int .i64 n) := by have := hfk 2 (mem_needs (by kernel_rfl)) _ rfl; rw [hRs] at this; exact this
                      rw [hRs]
                      refine hop_plain rfl ?_
                      have hr := Hvt.out fw
                      exact out_run (v := vt) (w' := fw) (by generalize fa.eval = ρ at *; simp [execOp, k75, k76, hr, go_sem]) ⟨rfl, Below.refl _ _⟩
                    refine rel_cons (Φ := Hop _ _ _ _ _ _ _) (k := 4) ?_ ?_
                    · intro fa fw hfB hfN hfk hft
                      have k74 : (NewC w5.heap.size) (fa.eval (.tmp 74)) fw := by have := hfk 0 (mem_needs (by kernel_rfl)) _ rfl; rw [hRs] at this; exact this
                      have k77 : fa.eval (.tmp 77) = (vt) := by have := hfk 3 (mem_needs (by kernel_rfl)) _ rfl; rw [hRs] at this; exact this
                      rw [hRs]
                      refine hop_plain rfl ?_
                      obtain ⟨B0, hb1, hb2, hb3⟩ := k74
                      obtain ⟨v', w', hr, ho, hB'⟩ := run_append_first fw w5.heap.size B0 _ (L.take n) hb3 hb2 (hct.below hfB) (by rw [List.length_take]; omega) hfN
                      exact out_append (.tmp 74) (.tmp 77) 73 rfl hb1 k77 hr ⟨(show RowC w5.heap.size (L.take n) v' w' from ⟨ho⟩), hB'⟩
                    refine rel_cons (Φ := Hop _ _ _ _ _ _ _) (k := 5) ?_ ?_
                    · intro fa fw hfB hfN hfk hft
                      have k10 : fa.eval (.tmp 10) = .pointer (some ⟨wo.heap.size, 0, none⟩) := hft 10 (mem_looks (by kernel_rfl)) (noneed (by kernel_rfl))
                      rw [hRs]
                      refine hop_plain rfl ?_
                      generalize fa.eval = ρ at *
                      exact out_run (v := .pointer (some ⟨wo.heap.size, 0, none⟩)) (w' := fw) (by simp [execOp, k10, go_sem]) ⟨rfl, Below.refl _ _⟩
                    refine rel_cons (Φ := Hop _ _ _ _ _ _ _) (k := 6) ?_ ?_
                    · intro fa fw hfB hfN hfk hft
                      have k79 : fa.eval (.tmp 79) = (.pointer (some ⟨wo.heap.size, 0, none⟩)) := by have := hfk 5 (mem_needs (by kernel_rfl)) _ rfl; rw [hRs] at this; exact this
                      rw [hRs]
                      refine hop_plain rfl ?_
                      have h := (hfB.cell (p := ⟨wo.heap.size, 0, none⟩) hbd.lt).trans hbd.c
                      generalize fa.eval = ρ at *
                      exact out_run (v := .string z) (w' := fw) (by simp [execOp, k79, h, go_sem]) ⟨rfl, Below.refl _ _⟩
                    refine rel_cons (Φ := Hop _ _ _ _ _ _ _) (k := 7) ?_ ?_
                    · intro fa fw hfB hfN hfk hft
                      have k80 : fa.eval (.tmp 80) = (.string z) := by have := hfk 6 (mem_needs (by kernel_rfl)) _ rfl; rw [hRs] at this; exact this
                      rw [hRs]
                      refine hop_plain rfl ?_
                      have kc : ∀ v, fa.eval (.const v) = v := fun _ => rfl
                      generalize fa.eval = ρ at *
                      exact out_run (v := .agg #[.string z, .int .i64 1]) (w' := fw) (by simp [execOp, kc, k80, go_sem]) ⟨rfl, Below.refl _ _⟩
                    refine rel_cons (Φ := Hop _ _ _ _ _ _ _) (k := 8) ?_ ?_
                    · intro fa fw hfB hfN hfk hft
                      have k81 : fa.eval (.tmp 81) = (.agg #[.string z, .int .i64 1]) := by have := hfk 7 (mem_needs (by kernel_rfl)) _ rfl; rw [hRs] at this; exact this
                      rw [hRs]
                      refine hop_plain rfl ?_
                      have kc : ∀ v, fa.eval (.const v) = v := fun _ => rfl
                      generalize fa.eval = ρ at *
                      exact out_run (v := .slice (some ⟨fw.heap.size, 0, none⟩) 1 1) (w' := fw.alloc (.cells #[.string z, .int .i64 1] 77)) (by simp [execOp, kc, k81, go_sem]) ⟨⟨_, rfl, heap_alloc_new _ _⟩, (Below.refl _ _).alloc (Nat.le_refl _) _⟩
                    refine rel_cons (Φ := Hop _ _ _ _ _ _ _) (k := 9) ?_ ?_
                    · intro fa fw hfB hfN hfk hft
                      have k78 : (RowC w5.heap.size (L.take n)) (fa.eval (.tmp 78)) fw := by have := hfk 4 (mem_needs (by kernel_rfl)) _ rfl; rw [hRs] at this; exact this
                      have k82 : (NewB 1 #[.string z, .int .i64 1] 77) (fa.eval (.tmp 82)) fw := by have := hfk 8 (mem_needs (by kernel_rfl)) _ rfl; rw [hRs] at this; exact this
                      rw [hRs]
                      refine hop_plain rfl ?_
                      obtain ⟨ho0⟩ := k78
                      obtain ⟨B1, hb1, hb2⟩ := k82
                      obtain ⟨v', w', hr, ho, hg⟩ := run_append_chg fw w5.heap.size _ _ _ _ [(z, 1)] ho0 (chg_block hb2) (by simp only [List.length_append, List.length_take, List.length_drop, List.length_cons, List.length_nil]; omega) hfN
                      refine out_append (.tmp 78) (.tmp 82) 73 rfl rfl hb1 hr ⟨(show RowC w5.heap.size (L.take n ++ [(z, 1)]) v' w' from ⟨by rw [List.length_append, flatD_app]; exact ho⟩), ?_⟩
                      exact (Below.refl _ _).grown hg hfN (fun k hk => (ho0.lt k hk).1)
                    refine rel_cons (Φ := Hop _ _ _ _ _ _ _) (k := 10) ?_ ?_
                    · intro fa fw hfB hfN hfk hft
                      have k5 : fa.eval (.tmp 5) = .slice (some ⟨g3, o3, none⟩) ln cap := hft 5 (mem_looks (by kernel_rfl)) (noneed (by kernel_rfl))
                      rw [hRs]
                      refine hop_plain rfl ?_
                      refine out_move rfl ?_
                      exact ⟨k5, Below.refl _ _⟩
                    refine rel_cons (Φ := Hop _ _ _ _ _ _ _) (k := 11) ?_ ?_
                    · intro fa fw hfB hfN hfk hft
                      have k11 : fa.eval (.tmp 11) = .int .i64 n := hft 11 (mem_looks (by kernel_rfl)) (noneed (by kernel_rfl))
                      rw [hRs]
                      refine hop_plain rfl ?_
                      refine out_move rfl ?_
                      exact ⟨k11, Below.refl _ _⟩
                    refine rel_cons (Φ := Hop _ _ _ _ _ _ _) (k := 12) ?_ ?_
                    · intro fa fw hfB hfN hfk hft
                      have k84 : fa.eval (.tmp 84) = (.slice (some ⟨g3, o3, none⟩) ln cap) := by have := hfk 10 (mem_needs (by kernel_rfl)) _ rfl; rw [hRs] at this; exact this
                      have k85 : fa.eval (.tmp 85) = (.int .i64 n) := by have := hfk 11 (mem_needs (by kernel_rfl)) _ rfl; rw [hRs] at this; exact this
                      rw [hRs]
                      refine hop_plain rfl ?_
                      have hr := Hvd.out fw
                      exact out_run (v := vd) (w' := fw) (by generalize fa.eval = ρ at *; simp [execOp, k84, k85, hr, go_sem]) ⟨rfl, Below.refl _ _⟩
                    refine rel_cons (Φ := Hop _ _ _ _ _ _ _) (k := 13) ?_ ?_
                    · intro fa fw hfB hfN hfk hft
                      have k83 : (RowC w5.heap.size (L.take n ++ [(z, 1)])) (fa.eval (.tmp 83)) fw := by have := hfk 9 (mem_needs (by kernel_rfl)) _ rfl; rw [hRs] at this; exact this
                      have k86 : fa.eval (.tmp 86) = (vd) := by have := hfk 12 (mem_needs (by kernel_rfl)) _ rfl; rw [hRs] at this; exact this
                      rw [hRs]
                      refine hop_plain rfl ?_
                      obtain ⟨ho0⟩ := k83
                      obtain ⟨v', w', hr, ho, hg⟩ := run_append_chg fw w5.heap.size _ _ _ _ (L.drop n) ho0 (hcd.below hfB) (by simp only [List.length_append, List.length_take, List.length_drop, List.length_cons, List.length_nil]; omega) hfN
                      refine out_append (.tmp 83) (.tmp 86) 73 rfl rfl k86 hr ⟨(show RowC w5.heap.size (L.take n ++ [(z, 1)] ++ L.drop n) v' w' from ⟨by rw [List.length_append, flatD_app]; exact ho⟩), ?_⟩
                      exact (Below.refl _ _).grown hg hfN (fun k hk => (ho0.lt k hk).1)
                    refine rel_cons (Φ := Hop _ _ _ _ _ _ _) (k := 14) ?_ ?_
                    · intro fa fw hfB hfN hfk hft
                      have k87 : (RowC w5.heap.size (L.take n ++ [(z, 1)] ++ L.drop n)) (fa.eval (.tmp 87)) fw := by have := hfk 13 (mem_needs (by kernel_rfl)) _ rfl; rw [hRs] at this; exact this
                      rw [hRs]
                      refine hop_plain rfl ?_
                      refine out_assign rfl ?_
                      exact ⟨k87, Below.refl _ _⟩
                    exact rel_nil
                  · intro fa fw hfB hfy hff hfs hfd
                    rw [hRs] at hfy
                    have k5 : (RowC w5.heap.size (L.take n ++ [(z, 1)] ++ L.drop n)) (fa.eval (.tmp 5)) fw := hfy 14 _ rfl (unkilled (by decide))
                    replace k5 : RowC w5.heap.size (L.take n ++ [(z, 1)] ++ L.drop n) (fa.tmps.getD 5 undef) fw := k5
                    have HBf := Lib.hid (show Below w.heap.size w fw from HLo5.out.bl.drew.trans (hfB.mono HLo5.out.bl.size))
                    have e := rel_frame [74, 75, 76, 77, 78, 79, 80, 81, 82, 83, 84, 85, 86, 87, 5] (by kernel_rfl) hff hfs hfd
                    simp only [List.foldl] at e
                    clear hfy hff hfs hfd 
                    generalize fa.tmps.getD 74 undef = x74 at e
                    generalize fa.tmps.getD 75 undef = x75 at e
                    generalize fa.tmps.getD 76 undef = x76 at e
                    generalize fa.tmps.getD 77 undef = x77 at e
                    generalize fa.tmps.getD 78 undef = x78 at e
                    generalize fa.tmps.getD 79 undef = x79 at e
                    generalize fa.tmps.getD 80 undef = x80 at e
                    generalize fa.tmps.getD 81 undef = x81 at e
                    generalize fa.tmps.getD 82 undef = x82 at e
                    generalize fa.tmps.getD 83 undef = x83 at e
                    generalize fa.tmps.getD 84 undef = x84 at e
                    generalize fa.tmps.getD 85 undef = x85 at e
                    generalize fa.tmps.getD 86 undef = x86 at e
                    generalize fa.tmps.getD 87 undef = x87 at e
                    generalize fa.tmps.getD 5 undef = x5 at e k5
                    simp [List.setIfInBounds_toArray, List.set_cons_succ, List.set_cons_zero] at e
                    subst e
                    have HLn := Lib.hid (show Lo w (D.insL cmpP L z) x5 fw from ⟨by rw [Hins.out]; exact World.ownsRow.mono k5.own HLo5.out.bl.size, HBf.out⟩)
                    clear k5
                    go_wp2_with fail
                    go_roundg (gko - 1)
                    case measure => omega
                    case rel => exact ⟨k + 1, by omega, by go_num, by rw [Hnx.out]; exact HLn.out⟩
          · subst hi
            have Hnx := Lib.hid (Hsome.out (by rw [hl]; simp))
            have hqI : (0 : Int) ≤ (q : Int) := by omega
            clear hl
            go_wp2_with fail
            go_roundg (gk - 1)
            case measure => omega
            case rel => exact ⟨k + 1, by omega, by go_num, by rw [Hnx.out]; exact HLo2.out⟩
        · have hnI2 : ¬ (k : Int) < (lb : Int) := by omega
          have HL1 := Lib.hid (show Lo w (D.ofL cmpP a b M) u5 wr by have := HLo.out; rwa [List.take_of_length_le (by have := Hb.out; omega)] at this)
          clear HLo
          go_wp2_with fail
          go_ret
          exact ⟨u5, rfl, by have := HL1.out.ow; rw [HM.out] at this; exact this, HL1.out.bl⟩
end Go.Proofs.YtdhaanaenklleaaDoor
